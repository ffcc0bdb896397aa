"""What scores have in common."""

from math import lcm

from heardagain.bounds import MAX_CROSS, MAX_SEVERAL
from heardagain.errors import TooMany, Unfit
from heardagain.moves import STRETCHING, check_kind, in_terms
from heardagain.places import best, hits
from heardagain.scores import points_of
from heardagain.shifts import begun

# As many choices of a point of each score may be gone through by several.
MOST_CHOICES = 20000


def common(score, other, kind):
    """Return the greatest number of points that a move of a kind that counts shares, and all moves that share so many.

    It is (0, ()) if no move of the kind counts.
    """
    check_kind(kind)
    points = points_of(score)
    if kind in STRETCHING and len(points) * len(points_of(other)) > MAX_CROSS:
        raise TooMany(MAX_CROSS)
    # The moves that count are the places of all points of score, as if they were a figure, in other.
    return best(other, points, kind)


def shared(score, other, move):
    """Return the points of score that a move leads to points of other."""
    return hits(other, points_of(score), move)


def likeness(score, other, kind):
    """Return twice the number of points in common, divided by the numbers of points of both scores together."""
    many, _ = common(score, other, kind)
    if many == 0:
        return (0, 1)
    return in_terms(2 * many, len(points_of(score)) + len(points_of(other)))


def ranked(scores, score, kind):
    """Return the places of all scores, those of the greatest likeness to score first."""
    check_kind(kind)
    found = [likeness(other, score, kind) for other in scores]
    whole = 1
    for _, below in found:
        whole = lcm(whole, below)
    keys = [(-above * whole // below, place) for place, (above, below) in enumerate(found)]
    return tuple([place for _, place in sorted(keys)])


def several(scores):
    """Return as many points as can lie in each of the scores, and a shift for each score by which they do."""
    if len(scores) < 2 or len(scores) > MAX_SEVERAL:
        raise Unfit()
    lots = [points_of(score) for score in scores]
    choices = 1
    for points in lots:
        choices = choices * len(points)
    if choices > MOST_CHOICES:
        raise TooMany(MOST_CHOICES)
    if choices == 0:
        return ((), ())
    return _greatest(_by_distance(lots))


def _by_distance(lots):
    """Return, by how far their fellows in the further lots lie from them, the points of the first lot.

    The distances are told as a tuple of pairs, one for each lot.
    """
    rows = [(point, ((0, 0),)) for point in lots[0]]
    for points in lots[1:]:
        rows = [((x, y), far + ((onset - x, pitch - y),)) for (x, y), far in rows for onset, pitch in points]
    groups = {}
    for point, distances in rows:
        groups.setdefault(distances, []).append(point)
    return groups


def _greatest(groups):
    """Return the points of a greatest group, led to (0, 0), and the shifts by which they lie in each lot."""
    most, shifts = (), ()
    for distances, points in groups.items():
        if len(points) > len(most):
            x, y = points[0]
            most, shifts = points, tuple([(x + dx, y + dy) for dx, dy in distances])
    return (begun(most), shifts)
