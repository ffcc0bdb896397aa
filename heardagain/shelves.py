"""Shelves: ascending tuples of pairs of a name and a score, and what edits make of them."""

from heardagain.basics import is_integer
from heardagain.bounds import BATCH, MAX_NOTES, MAX_SHELF
from heardagain.errors import BadBatch, BadScore, NoName, NoNote, Rejected, ScoreError, Taken, TooMany, Unfit
from heardagain.names import is_name
from heardagain.scores import is_note, score_error


def names_on(shelf):
    """Return the names of a shelf, in order."""
    return tuple([name for name, _ in shelf])


def score_on(shelf, name):
    """Return the score of a name; raise NoName if there is none."""
    for own, score in shelf:
        if own == name:
            return score
    raise NoName(name)


def added(shelf, name, score):
    """Return a shelf with one more name and its score."""
    if not is_name(name):
        raise Unfit()
    error = score_error(score)
    if error is not None:
        raise BadScore(error)
    if name in names_on(shelf):
        raise Taken(name)
    if len(shelf) >= MAX_SHELF:
        raise TooMany(MAX_SHELF)
    return tuple(sorted(shelf + ((name, score),)))


def dropped(shelf, name):
    """Return a shelf without a name and its score."""
    score_on(shelf, name)
    return tuple([pair for pair in shelf if pair[0] != name])


def with_note(shelf, name, note):
    """Return a shelf with a note more in the score of a name."""
    score = score_on(shelf, name)
    if not is_note(note):
        raise NoNote(note)
    if note[:3] in [own[:3] for own in score]:
        raise Taken(note)
    if len(score) >= MAX_NOTES:
        raise TooMany(MAX_NOTES)
    return _with_score(shelf, name, tuple(sorted(score + (note,))))


def without_note(shelf, name, note):
    """Return a shelf without a note in the score of a name."""
    score = score_on(shelf, name)
    if not is_note(note) or note not in score:
        raise NoNote(note)
    return _with_score(shelf, name, tuple([own for own in score if own != note]))


def shifted(shelf, name, later, higher):
    """Return a shelf with all notes of the score of a name later and higher."""
    score = score_on(shelf, name)
    if not is_integer(later) or not is_integer(higher):
        raise Unfit()
    further = tuple([(onset + later, pitch + higher, voice, length) for onset, pitch, voice, length in score])
    error = score_error(further)
    if error is not None:
        raise BadScore(error)
    return _with_score(shelf, name, further)


# What each word of an edit does with a shelf, and how many arguments it has besides.
EDITS = {"add": added, "drop": dropped, "put": with_note, "cut": without_note, "shift": shifted}
ARGUMENTS = {"add": 2, "drop": 1, "put": 2, "cut": 2, "shift": 3}


def batched(shelf, edits):
    """Return what several edits make of a shelf, one behind another."""
    if not isinstance(edits, tuple) or len(edits) > BATCH or not all([_is_edit(edit) for edit in edits]):
        raise BadBatch()
    for place, edit in enumerate(edits):
        action = EDITS[edit[0]]
        arguments = edit[1:]
        try:
            shelf = action(shelf, *arguments)
        except ScoreError:
            raise Rejected(place)
    return shelf


def _is_edit(value):
    """Return whether value is a tuple of the word of an edit and as many arguments as it has."""
    if not isinstance(value, tuple) or len(value) == 0 or not isinstance(value[0], str):
        return False
    return value[0] in ARGUMENTS and len(value) == ARGUMENTS[value[0]] + 1


def _with_score(shelf, name, score):
    return tuple([(own, score if own == name else other) for own, other in shelf])
