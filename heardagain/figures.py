"""Figures that are alike up to a kind of moves."""

from math import gcd

from heardagain.moves import STRETCHING, check_kind, flips, is_of, led, stretch, turns


def leads(figure, other, kind):
    """Return all moves of a kind that lead a figure to another one."""
    check_kind(kind)
    moves = [move for move in _ends_to_ends(figure, other) if is_of(kind, move) and led(move, figure) == other]
    return tuple(sorted(moves))


def alike(figure, other, kind):
    """Return whether a move of a kind leads a figure to another one."""
    return len(leads(figure, other, kind)) > 0


def normal(figure, kind):
    """Return the normal form of a figure for a kind."""
    check_kind(kind)
    forms = [_beginning([(sign * x, e * y) for x, y in figure]) for sign in turns(kind) for e in flips(kind)]
    # To divide all onsets by one number keeps the order of the forms, and their onsets have one divisor.
    least = min(forms)
    return _shortened(least) if kind in STRETCHING else least


def _ends_to_ends(figure, other):
    """Return the four moves by which the ends of a figure, both ways, come to those of another one."""
    first, last = other[0][0], other[-1][0]
    moves = []
    for begin, end in ((first, last), (last, first)):
        q, t = stretch(figure[0][0], figure[-1][0], begin, end)
        for e in (1, -1):
            v = min([y for _, y in other]) - min([e * y for _, y in figure])
            moves.append((q, t, e, v))
    return moves


def _beginning(pairs):
    """Return pairs, ascending, shifted so that the first one is (0, 0)."""
    far, high = min(pairs)
    return tuple(sorted([(x - far, y - high) for x, y in pairs]))


def _shortened(pairs):
    """Return pairs with all onsets divided by their greatest common divisor."""
    divisor = 0
    for x, _ in pairs:
        divisor = gcd(divisor, x)
    return tuple([(x // divisor, y) for x, y in pairs])
