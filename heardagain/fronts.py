"""How closed pairs lie in one another, and which have the most points or the most places."""

from heardagain.closed import closed_pairs
from heardagain.shifts import shifts_into


def lies_in(pair, other):
    """Return the least shift by which a closed pair lies in another one, None if there is none."""
    shifts = shifts_into(other[0], pair[0])
    return shifts[0] if shifts else None


def nearest_in(score):
    """Return all pairs of places of closed pairs, the first of which lies in the second one, with none between."""
    pairs = closed_pairs(score)
    wider = [_places_of_wider(pairs, pair) for pair in pairs]
    found = []
    for place, own in enumerate(wider):
        beyond = {far: True for further in own for far in wider[further]}
        found.extend([(place, further) for further in own if further not in beyond])
    return tuple(found)


def front(score):
    """Return the numbers of places and of points of which no closed pair has as many, and more of one."""
    most = {}
    for own, shifts in closed_pairs(score):
        most[len(shifts)] = max(most.get(len(shifts), 0), len(own))
    found = []
    for many in sorted(most, reverse=True):
        if not found or most[many] > found[-1][1]:
            found.append((many, most[many]))
    return tuple(found[::-1])


def most_points(score, many):
    """Return a closed pair with so many shifts or more that has the most points, None if there is none."""
    pairs = [pair for pair in closed_pairs(score) if len(pair[1]) >= many]
    return max(pairs, key=lambda pair: len(pair[0]), default=None)


def most_places(score, many):
    """Return a closed pair with so many points or more that has the most shifts, None if there is none."""
    pairs = [pair for pair in closed_pairs(score) if len(pair[0]) >= many]
    return max(pairs, key=lambda pair: len(pair[1]), default=None)


def _places_of_wider(pairs, pair):
    """Return the places of the other closed pairs in which one lies."""
    # Such a one has more points and fewer shifts, and to count them is quicker than to look for a shift.
    own, shifts = pair
    return [place for place, (wide, few) in enumerate(pairs)
            if len(wide) > len(own) and len(few) < len(shifts) and lies_in(pair, (wide, few)) is not None]
