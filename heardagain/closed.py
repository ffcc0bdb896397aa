"""Closed pairs: points that come again by shifts, and the shifts, where nothing could be put to either of them."""

from heardagain.basics import chosen, is_tuple_of
from heardagain.bounds import MAX_CLOSED
from heardagain.errors import TooMany, Unfit
from heardagain.points import points_error
from heardagain.scores import points_of
from heardagain.shifts import are_shifts, begun, shifts_into, sums_of


def shifts_of(score, points):
    """Return all shifts that lead each of points to a point of a score; raise Unfit for no points."""
    if not points:
        raise Unfit()
    return shifts_into(points_of(score), points)


def closed_of(score, points):
    """Return the closed pair of the same places as points; raise Unfit if they have fewer than two."""
    shifts = shifts_of(score, points)
    if len(shifts) < 2:
        raise Unfit()
    own = begun(shifts)
    return (_kept_by(points_of(score), own), own)


def closed_error(score, value):
    """Return None for a closed pair of a score, otherwise the first thing that is wrong with value."""
    if not is_tuple_of(value, 2):
        return "form"
    points, shifts = value
    if points_error(points) is not None or not points:
        return "points"
    if not are_shifts(shifts, 2):
        return "shifts"
    if shifts[0] != (0, 0):
        return "least"
    return _place_error(points_of(score), points, shifts) or _further_error(points_of(score), points, shifts)


def closed_pairs(score):
    """Return all closed pairs of a score; raise TooMany if there are too many."""
    return closed_among(points_of(score))


def closed_among(heard):
    """Return all closed pairs of points, ascending; raise TooMany if there are too many.

    The points of a closed pair are those that each of its shifts leads to a point. So all are found if the points that
    one shift leads to points are taken ahead of all, and then those of them that one more shift leads so. They are sets
    of bits, by the places of the points; each one found is looked at where it is heard first alone.
    """
    stays = _stays(heard)
    later = sorted({bits for shift, bits in stays.items() if shift > (0, 0)})
    seen, found, waiting = {}, {}, [(1 << len(heard)) - 1]
    while waiting:
        own = waiting.pop()
        for bits in [own & stay for stay in later]:
            if bits and bits not in seen:
                seen[bits] = True
                first = _heard_first(heard, stays, bits)
                if first not in found:
                    found[first] = True
                    waiting.append(first)
                    if len(found) > MAX_CLOSED:
                        raise TooMany(MAX_CLOSED)
    return tuple(sorted([(chosen(heard, bits), _shifts_by(heard, stays, bits)) for bits in found]))


def _stays(heard):
    """Return, for each shift that leads one of the points to one of them, a bit for the place of each such point."""
    stays = {}
    for place, (x, y) in enumerate(heard):
        for onset, pitch in heard:
            shift = (onset - x, pitch - y)
            stays[shift] = stays.get(shift, 0) | 1 << place
    return stays


def _shifts_by(heard, stays, bits):
    """Return the shifts that lead each of the points of these bits to one of the points."""
    # The place of the least bit is that of the first point.
    x, y = heard[(bits & -bits).bit_length() - 1]
    shifts = [(onset - x, pitch - y) for onset, pitch in heard]
    return tuple([shift for shift in shifts if stays[shift] & bits == bits])


def _heard_first(heard, stays, bits):
    """Return the bits of the points to which the least such shift leads the points of these bits."""
    least = _shifts_by(heard, stays, bits)[0]
    if least == (0, 0):
        return bits
    points = sums_of(chosen(heard, bits), (least,))
    return sum([1 << place for place, point in enumerate(heard) if point in points])


def _kept_by(heard, shifts):
    """Return the points that each of shifts, the first of which is (0, 0), leads to points that are heard."""
    own = {point: True for point in heard}
    return tuple([(x, y) for x, y in heard if all([(x + dx, y + dy) in own for dx, dy in shifts])])


def _place_error(heard, points, shifts):
    """Return the word for the least point and shift that lead to no point that is heard, None if there are none."""
    for x, y in points:
        for dx, dy in shifts:
            if (x + dx, y + dy) not in heard:
                return ("place", (x, y), (dx, dy))
    return None


def _further_error(heard, points, shifts):
    """Return the word for the least further point, or else the least further shift, None if there are none."""
    for point in _kept_by(heard, shifts):
        if point not in points:
            return ("point", point)
    for shift in shifts_into(heard, points):
        if shift not in shifts:
            return ("shift", shift)
    return None
