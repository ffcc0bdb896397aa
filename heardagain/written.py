"""Writings: points told by themes and the shifts by which these are played."""

from heardagain.basics import first_fall, is_tuple_of
from heardagain.points import points_error
from heardagain.shifts import are_shifts, sums_of


def writing_error(points, value):
    """Return None for a writing of points, otherwise the first thing that is wrong with value."""
    if not isinstance(value, tuple) or not all([is_tuple_of(pair, 2) for pair in value]):
        return "form"
    return _pair_error(value) or _placed_error(points, value)


def placed(writing):
    """Return the points that a writing places."""
    return tuple(sorted({point for theme, shifts in writing for point in sums_of(theme, shifts)}))


def size(writing):
    """Return the number of all points of the themes of a writing, and of all its shifts."""
    return sum([len(theme) + len(shifts) for theme, shifts in writing])


def given_by(writing, point):
    """Return the place of a pair, the point of its theme and the shift, for each that give a point."""
    x, y = point
    found = []
    for place, (theme, shifts) in enumerate(writing):
        for late, high in theme:
            shift = (x - late, y - high)
            if shift in shifts:
                found.append((place, (late, high), shift))
    return tuple(found)


def is_theme(value):
    """Return whether value is a theme."""
    return points_error(value) is None and value[:1] == ((0, 0),)


def _pair_error(pairs):
    """Return the word for the first wrong theme, shifts or order in a tuple of pairs, None if there is none."""
    for place, (theme, _) in enumerate(pairs):
        if not is_theme(theme):
            return ("theme", place)
    for place, (_, shifts) in enumerate(pairs):
        if not are_shifts(shifts, 1):
            return ("shifts", place)
    place = first_fall(pairs)
    return ("order", place) if place is not None else None


def _placed_error(points, pairs):
    """Return the word for the first sum that is none of points, or else the first point that is left, if any."""
    for place, (theme, shifts) in enumerate(pairs):
        for point in sums_of(theme, shifts):
            if point not in points:
                return ("placed", place, point)
    own = placed(pairs)
    for point in points:
        if point not in own:
            return ("left", point)
    return None
