"""Shifts: pairs of integers that are added to points."""

from heardagain.basics import first_fall, is_integer, is_tuple_of


def are_shifts(value, least):
    """Return whether value is an ascending tuple of so many shifts or more."""
    if not isinstance(value, tuple) or len(value) < least:
        return False
    for item in value:
        if not is_tuple_of(item, 2) or not is_integer(item[0]) or not is_integer(item[1]):
            return False
    return first_fall(value) is None


def sums_of(points, shifts):
    """Return all to which one of shifts leads one of points, each once."""
    return tuple(sorted({(x + dx, y + dy) for x, y in points for dx, dy in shifts}))


def begun(points):
    """Return points shifted so that the first one is (0, 0)."""
    far, high = points[0]
    return tuple([(x - far, y - high) for x, y in points])


def shifts_into(heard, points):
    """Return all shifts that lead each of points, one at least, to one of the points that are heard."""
    own = {point: True for point in heard}
    x, y = points[0]
    shifts = [(onset - x, pitch - y) for onset, pitch in heard]
    return tuple([shift for shift in shifts if _leads_into(own, shift, points)])


def _leads_into(own, shift, points):
    dx, dy = shift
    for x, y in points:
        if (x + dx, y + dy) not in own:
            return False
    return True
