"""Names of standing searches and of the scores of a shelf."""

from heardagain.basics import is_within
from heardagain.bounds import MAX_NAME


def is_name(value):
    """Return whether value is a name: a string of few small letters from a to z."""
    if not isinstance(value, str) or not is_within(len(value), 1, MAX_NAME):
        return False
    return value.isascii() and value.isalpha() and value.islower()
