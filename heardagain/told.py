"""Writings of points: one that is found step by step, and a least one."""

from heardagain.basics import chosen
from heardagain.bounds import MAX_SMALL
from heardagain.closed import closed_among
from heardagain.errors import TooMany
from heardagain.shifts import begun, shifts_into, sums_of
from heardagain.themes import SINGLE, joined_up
from heardagain.written import is_theme


def told_writing(points):
    """Return the writing of points for which the closed pair that saves most is taken again and again."""
    left, pairs = points, []
    taken = _most_saving(left)
    while taken is not None:
        own, shifts = taken
        pairs.append((begun(own), sums_of(own[:1], shifts)))
        gone = sums_of(own, shifts)
        left = tuple([point for point in left if point not in gone])
        taken = _most_saving(left)
    if left:
        pairs.append((SINGLE, left))
    return joined_up(pairs)


def least_writing(points):
    """Return a writing of points of the least size; raise TooMany if there are too many points."""
    if len(points) > MAX_SMALL:
        raise TooMany(MAX_SMALL)
    blocks = _blocks(points)
    # For each lot of points, as bits, that is reached: the least size that places it, and pairs of this size.
    ways = {0: (0, ())}
    for covered in range((1 << len(points)) - 1):
        if covered in ways:
            # In all writings the least point that is left is placed by some pair, so this pair may come next.
            next_bit = ~covered & (covered + 1)
            cost, pairs = ways[covered]
            for bits, (more, pair) in blocks.items():
                if bits & next_bit:
                    _keep_lesser(ways, bits | covered, (cost + more, pairs + (pair,)))
    return tuple(sorted(ways[(1 << len(points)) - 1][1]))


def _most_saving(left):
    """Return the least closed pair, of those that can be taken, with the greatest saving, None if there is none."""
    best, most = None, 0
    for own, shifts in closed_among(left):
        saving = len(sums_of(own, shifts)) - len(own) - len(shifts)
        if saving > most and is_theme(begun(own)):
            best, most = (own, shifts), saving
    return best


def _blocks(points):
    """Return, by the bits of the points that it places, a pair of the least size, with this size ahead of it."""
    themes = {begun(chosen(points, bits)): True for bits in range(1, 1 << len(points))}
    place_of = {point: place for place, point in enumerate(points)}
    blocks = {}
    for theme in themes:
        if is_theme(theme):
            plays = shifts_into(points, theme)
            for some in range(1, 1 << len(plays)):
                shifts = chosen(plays, some)
                bits = sum([1 << place_of[point] for point in sums_of(theme, shifts)])
                _keep_lesser(blocks, bits, (len(theme) + len(shifts), (theme, shifts)))
    return blocks


def _keep_lesser(found, bits, way):
    """Keep a way for these bits if none is kept that is as small."""
    if bits not in found or way[0] < found[bits][0]:
        found[bits] = way
