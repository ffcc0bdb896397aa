"""The errors of this package, all of them ScoreErrors."""


class ScoreError(ValueError):
    """What is wrong with something that this package was passed."""


class BadScore(ScoreError):
    """Something is no score; error is what score_error tells of it."""

    def __init__(self, error):
        self.error = error


class BadPoints(ScoreError):
    """Something is no points, or no figure; error is what is told of it."""

    def __init__(self, error):
        self.error = error


class BadText(ScoreError):
    """Something is no text of a score, or of points."""


class NoKind(ScoreError):
    """given is no kind of moves."""

    def __init__(self, given):
        self.given = given


class NoVoice(ScoreError):
    """given is no voice of the score."""

    def __init__(self, given):
        self.given = given


class NoName(ScoreError):
    """given is no name that could be used here."""

    def __init__(self, given):
        self.given = given


class NoNote(ScoreError):
    """given is no note that could be used here."""

    def __init__(self, given):
        self.given = given


class Taken(ScoreError):
    """The place of given is taken already."""

    def __init__(self, given):
        self.given = given


class Unfit(ScoreError):
    """What was passed does not fit."""


class TooMany(ScoreError):
    """There are more than limit."""

    def __init__(self, limit):
        self.limit = limit


class BadPattern(ScoreError):
    """Something is no pattern; error is what pattern_error tells of it."""

    def __init__(self, error):
        self.error = error


class BadBatch(ScoreError):
    """Something is no batch of edits."""


class Rejected(ScoreError):
    """The edit at place in a batch raised an error."""

    def __init__(self, place):
        self.place = place


class TooManyEdits(ScoreError):
    """As many edits stand as may."""


class NothingToUndo(ScoreError):
    """No edit stands."""


class NothingToRedo(ScoreError):
    """No edit was taken back and is not done again."""


class NoVersion(ScoreError):
    """given is no version that there was."""

    def __init__(self, given):
        self.given = given
