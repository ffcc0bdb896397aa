"""Fractions, moves and their kinds."""

from math import gcd

from heardagain.basics import is_integer, is_tuple_of
from heardagain.errors import NoKind
from heardagain.points import is_point

KINDS = ("shift", "flip", "back", "both", "slow", "all")
# The kinds that let q be below 0, those that let e be -1, and those that let q and t be any fractions.
TURNING = ("back", "both", "all")
FLIPPING = ("flip", "both", "all")
STRETCHING = ("slow", "all")


def fraction_error(value):
    """Return None for a fraction, otherwise the first thing that is wrong with value."""
    if not is_tuple_of(value, 2) or not is_integer(value[0]) or not is_integer(value[1]):
        return "form"
    above, below = value
    if below < 1:
        return "below"
    if gcd(above, below) > 1:
        return "terms"
    return None


def move_error(value):
    """Return None for a move, otherwise the first thing that is wrong with value."""
    if not is_tuple_of(value, 4):
        return "form"
    q, t, e, v = value
    if fraction_error(q) is not None or q[0] == 0:
        return "q"
    if fraction_error(t) is not None:
        return "t"
    if not is_integer(e) or e not in (1, -1):
        return "e"
    if not is_integer(v):
        return "v"
    return None


def lands(move, point):
    """Return the point to which a move leads a point, None if it leads it nowhere."""
    (above, below), (late, part), e, v = move
    x, y = point
    onset, beyond = divmod(above * x * part + late * below, below * part)
    place = (onset, e * y + v)
    return place if beyond == 0 and is_point(place) else None


def led(move, points):
    """Return the points to which a move leads points, None if it leads one of them nowhere."""
    places = [lands(move, point) for point in points]
    if None in places:
        return None
    return tuple(sorted(places))


def behind(move, further):
    """Return the move that does what move does, and then what further does."""
    q, t, e, v = move
    r, u, f, w = further
    return (_product(r, q), _sum(_product(r, t), u), f * e, f * v + w)


def undone(move):
    """Return the move that takes a move back."""
    (above, below), (late, part), e, v = move
    return (in_terms(below, above), in_terms(-late * below, part * above), e, -e * v)


def is_of(kind, move):
    """Return whether a move is of a kind; raise NoKind if this is none."""
    check_kind(kind)
    (above, below), t, e, _ = move
    if (above < 0 and kind not in TURNING) or (e < 0 and kind not in FLIPPING):
        return False
    return kind in STRETCHING or (abs(above) == 1 and below == 1 and t[1] == 1)


def check_kind(kind):
    """Raise NoKind if this is no kind."""
    if kind not in KINDS:
        raise NoKind(kind)


def turns(kind):
    """Return the signs that q may have in moves of a kind."""
    return (1, -1) if kind in TURNING else (1,)


def flips(kind):
    """Return the values that e may have in moves of a kind."""
    return (1, -1) if kind in FLIPPING else (1,)


def stretch(one, two, begin, end):
    """Return the q and the t by which the onset one comes to begin, and two, an unlike one, to end."""
    far = two - one
    return in_terms(end - begin, far), in_terms(begin * far - (end - begin) * one, far)


def in_terms(above, below):
    """Return the fraction for above divided by below, which is not 0."""
    # With the sign of below the divisor makes the second item one above 0.
    divisor = gcd(above, below) if below > 0 else -gcd(above, below)
    return (above // divisor, below // divisor)


def _product(one, two):
    return in_terms(one[0] * two[0], one[1] * two[1])


def _sum(one, two):
    return in_terms(one[0] * two[1] + two[0] * one[1], one[1] * two[1])
