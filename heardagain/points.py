"""Points and figures."""

from heardagain.basics import first_fall, is_tuple_of, is_within
from heardagain.bounds import MAX_FAR, MAX_FIGURE, MAX_NOTES


def is_point(value):
    """Return whether value is a point."""
    return is_tuple_of(value, 2) and is_within(value[0], -MAX_FAR, MAX_FAR) and is_within(value[1], -MAX_FAR, MAX_FAR)


def points_error(value):
    """Return None for points, otherwise the first thing that is wrong with value."""
    if not isinstance(value, tuple):
        return "form"
    for place, item in enumerate(value):
        if not is_point(item):
            return ("point", place)
    place = first_fall(value)
    if place is not None:
        return ("order", place)
    if len(value) > MAX_NOTES:
        return "many"
    return None


def figure_error(value):
    """Return None for a figure, otherwise the first thing that is wrong with value."""
    error = points_error(value)
    if error is not None:
        return error
    if len(value) < 2:
        return "few"
    if len(value) > MAX_FIGURE:
        return "many"
    # Points are ascending, so the onsets of the first and the last one are the least and the greatest.
    if value[0][0] == value[-1][0]:
        return "chord"
    return None
