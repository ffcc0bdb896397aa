"""Sieves: which of many scores may have a place of a figure, told by their keys."""

from heardagain.keys import flat_steps, need, shared_steps, steps
from heardagain.places import places
from heardagain.scores import points_of


def sieve(scores, figure, least, width, kind):
    """Return the places of those scores that share enough steps with a figure."""
    enough = need(figure, least, width, kind)
    own = _keys(figure, width, kind)
    return tuple([place for place, score in enumerate(scores)
                  if shared_steps(_keys(points_of(score), width, kind), own) >= enough])


def sifted(scores, figure, least, width, kind):
    """Return the places of those scores in which a figure is heard, each with the places of the figure in it."""
    found = [(place, places(scores[place], figure, kind, least))
             for place in sieve(scores, figure, least, width, kind)]
    return tuple([(place, own) for place, own in found if own])


def _keys(points, width, kind):
    # A flip turns the sign of dy, so for it steps are told without this sign.
    return flat_steps(points, width) if kind == "flip" else steps(points, width)
