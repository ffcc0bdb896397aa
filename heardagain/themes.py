"""Writings that are changed: another theme, a point less, themes put together."""

from heardagain.basics import first_fall, is_within
from heardagain.errors import Unfit
from heardagain.points import points_error
from heardagain.written import given_by, is_theme, placed

# The theme of points that are written one by one.
SINGLE = ((0, 0),)


def with_theme(writing, place, theme):
    """Return a writing with another theme at a place; raise Unfit if this is none, or would be no writing."""
    if not is_within(place, 0, len(writing) - 1) or not is_theme(theme):
        raise Unfit()
    _, shifts = writing[place]
    changed = tuple(sorted(writing[:place] + ((theme, shifts),) + writing[place + 1:]))
    if first_fall(changed) is not None or points_error(placed(changed)) is not None:
        raise Unfit()
    return changed


def without(writing, point):
    """Return a writing without the plays that give a point, in which all else that they gave is written one by one."""
    if not given_by(writing, point):
        return writing
    kept = _without_plays(writing, point)
    still = placed(kept)
    lost = tuple([other for other in placed(writing) if other not in still and other != point])
    return tuple(sorted(set(_with_singles(kept, lost))))


def joined_up(writing):
    """Return a writing in which all pairs of one theme are one pair."""
    plays = {}
    for theme, shifts in writing:
        plays.setdefault(theme, []).extend(shifts)
    return tuple(sorted([(theme, tuple(sorted(set(shifts)))) for theme, shifts in plays.items()]))


def _without_plays(writing, point):
    """Return the pairs of a writing without the plays that give a point; pairs without plays are gone."""
    gone = {(place, shift): True for place, _, shift in given_by(writing, point)}
    kept = []
    for place, (theme, shifts) in enumerate(writing):
        left = tuple([shift for shift in shifts if (place, shift) not in gone])
        if left:
            kept.append((theme, left))
    return kept


def _with_singles(pairs, points):
    """Return pairs with further points written one by one, in the first pair for such points if there is one."""
    if not points:
        return pairs
    for place, (theme, shifts) in enumerate(pairs):
        if theme == SINGLE:
            return pairs[:place] + [(SINGLE, tuple(sorted(shifts + points)))] + pairs[place + 1:]
    return pairs + [(SINGLE, points)]
