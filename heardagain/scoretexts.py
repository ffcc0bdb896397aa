"""The texts of scores and points."""

from heardagain.errors import BadText
from heardagain.points import points_error
from heardagain.scores import score_error

HEAD = "score"
NO_POINTS = "none"
# No integer of a score or of points has more digits, and Python does not read very long ones.
MOST_DIGITS = 4


def score_text(score):
    """Return the text of a score."""
    return "\n".join([HEAD] + [_joined(note, " ") for note in score])


def points_text(points):
    """Return the text of points."""
    if not points:
        return NO_POINTS
    return " ".join([_joined(point, ",") for point in points])


def read_score(value):
    """Return the score of which value is the text; raise BadText if there is none."""
    if not isinstance(value, str):
        raise BadText()
    head, *lines = value.split("\n")
    score = tuple([_read_integers(line, " ") for line in lines])
    if head != HEAD or score_error(score) is not None:
        raise BadText()
    return score


def read_points(value):
    """Return the points of which value is the text; raise BadText if there are none."""
    if not isinstance(value, str):
        raise BadText()
    if value == NO_POINTS:
        return ()
    points = tuple([_read_integers(word, ",") for word in value.split(" ")])
    if points_error(points) is not None:
        raise BadText()
    return points


def _joined(integers, sign):
    return sign.join([str(integer) for integer in integers])


def _read_integers(text, sign):
    return tuple([read_integer(word, MOST_DIGITS) for word in text.split(sign)])


def read_integer(word, most):
    """Return the integer that is written just as word, None if there is none with so many digits at most."""
    digits = word[1:] if word.startswith("-") else word
    if len(digits) > most or not digits.isdecimal():
        return None
    integer = int(word)
    # Noughts ahead and "-0" are read by Python, but not written so.
    return integer if str(integer) == word else None
