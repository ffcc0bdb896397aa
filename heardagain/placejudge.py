"""What is wrong with a value that is none of the places of a figure in a score."""

from heardagain.basics import is_tuple_of
from heardagain.moves import is_of, move_error
from heardagain.places import hits
from heardagain.points import points_error


def place_error(score, figure, kind, least, value):
    """Return None for a pair of a place and its hits, otherwise the first thing that is wrong with value."""
    if not is_tuple_of(value, 2):
        return "form"
    move, own = value
    if move_error(move) is not None:
        return "move"
    if not is_of(kind, move):
        return "kind"
    # What is no points is no hits, even if it is equal to some: True is not 1.
    if points_error(own) is not None or own != hits(score, figure, move):
        return "hits"
    if len(own) < least:
        return "few"
    if own[0][0] == own[-1][0]:
        return "chord"
    return None
