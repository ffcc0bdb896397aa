"""Notes and scores."""

from heardagain.basics import first_fall, is_tuple_of, is_within
from heardagain.bounds import MAX_LENGTH, MAX_NOTES, MAX_ONSET, MAX_PITCH, MAX_VOICE


def is_note(value):
    """Return whether value is a note."""
    if not is_tuple_of(value, 4):
        return False
    onset, pitch, voice, length = value
    return (is_within(onset, 0, MAX_ONSET) and is_within(pitch, 0, MAX_PITCH)
            and is_within(voice, 0, MAX_VOICE) and is_within(length, 1, MAX_LENGTH))


def score_error(value):
    """Return None for a score, otherwise the first thing that is wrong with value."""
    if not isinstance(value, tuple):
        return "form"
    for place, item in enumerate(value):
        if not is_note(item):
            return ("note", place)
    # The lengths are left out: notes that are unlike in these alone are no score.
    place = first_fall([note[:3] for note in value])
    if place is not None:
        return ("order", place)
    if len(value) > MAX_NOTES:
        return "many"
    return None


def points_of(score):
    """Return the points of a score, each once."""
    return tuple(sorted({note[:2] for note in score}))


def voices_of(score):
    """Return the voices of a score, each once."""
    return tuple(sorted({note[2] for note in score}))


def notes_at(score, point):
    """Return the notes of a score whose onset and pitch are the point."""
    return tuple([note for note in score if note[:2] == point])
