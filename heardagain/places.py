"""Places: where a figure, or a part of it, is heard in a score."""

from heardagain.basics import chosen, is_within
from heardagain.bounds import MAX_PLACES
from heardagain.errors import TooMany, Unfit
from heardagain.moves import STRETCHING, check_kind, flips, lands, stretch, turns
from heardagain.scores import points_of


def hits(score, figure, move):
    """Return the points of a figure that a move leads to points of a score."""
    heard = set(points_of(score))
    return tuple([point for point in figure if lands(move, point) in heard])


def places(score, figure, kind, least):
    """Return all places of a kind with so many hits at least, each with its hits."""
    check_kind(kind)
    if not is_within(least, 2, len(figure)):
        raise Unfit()
    found = [(move, own) for move, own in all_places(points_of(score), figure, kind) if len(own) >= least]
    if len(found) > MAX_PLACES:
        raise TooMany(MAX_PLACES)
    return tuple(sorted(found))


def whole(score, figure, kind):
    """Return all moves of a kind by which all points of a figure are hits."""
    check_kind(kind)
    return _moves_with(all_places(points_of(score), figure, kind), len(figure))


def best(score, figure, kind):
    """Return the greatest number of hits of a place of a kind, and the moves of all places with so many."""
    check_kind(kind)
    found = all_places(points_of(score), figure, kind)
    many = max([len(own) for _, own in found], default=0)
    return (many, _moves_with(found, many))


def tally(score, figure, kind):
    """Return each number of hits that a place of a kind has, with how many places have so many."""
    check_kind(kind)
    found = all_places(points_of(score), figure, kind)
    if len(found) > MAX_PLACES:
        raise TooMany(MAX_PLACES)
    counts = {}
    for _, own in found:
        counts[len(own)] = counts.get(len(own), 0) + 1
    return tuple(sorted(counts.items()))


def all_places(heard, figure, kind):
    """Return, in no order, the pairs of a move and its hits for all places with two hits or more.

    heard are the points that may be hit; kind is a kind.
    """
    found = _stretched(heard, figure, kind) if kind in STRETCHING else _shifted(heard, figure, kind)
    # Many moves have the same hits, so these are made once for all of them.
    groups = {bits: chosen(figure, bits) for bits in sorted(set(list(found.values())))}
    pairs = [(move, groups[bits]) for move, bits in found.items()]
    return [(move, own) for move, own in pairs if own[0][0] != own[-1][0]]


def _moves_with(found, many):
    return tuple(sorted([move for move, own in found if len(own) == many]))


def _shifted(heard, figure, kind):
    """Return the moves of a kind without stretching that have a hit, each with a bit for the place of each hit."""
    found = {}
    for sign in turns(kind):
        for e in flips(kind):
            for place, (x, y) in enumerate(figure):
                for onset, pitch in heard:
                    move = ((sign, 1), (onset - sign * x, 1), e, pitch - e * y)
                    found[move] = found.get(move, 0) | 1 << place
    return found


def _stretched(heard, figure, kind):
    """Return the moves of a kind with stretching that have hits at unlike onsets, with bits as above."""
    found = {}
    rises = _by_rise(heard, turns(kind))
    for one, two in _places_apart(figure):
        (x, y), (further, high) = figure[one], figure[two]
        # Each hit has another one at an unlike onset, so its bit is put by some pair.
        bits = 1 << one | 1 << two
        for e in flips(kind):
            for (begin, pitch), end in rises.get(e * (high - y), ()):
                move = stretch(x, further, begin, end) + (e, pitch - e * y)
                found[move] = found.get(move, 0) | bits
    return found


def _places_apart(figure):
    """Return the pairs of places, the lesser one first, of points at unlike onsets."""
    return [(one, two) for two in range(len(figure)) for one in range(two) if figure[one][0] < figure[two][0]]


def _by_rise(heard, signs):
    """Return, by how much the pitch rises, the pairs of a point and the onset of one behind it, or ahead of it.

    Points behind are told for the sign 1, points ahead for -1.
    """
    rises = {}
    for begin, pitch in heard:
        for end, high in heard:
            if (begin < end and 1 in signs) or (begin > end and -1 in signs):
                rises.setdefault(high - pitch, []).append(((begin, pitch), end))
    return rises
