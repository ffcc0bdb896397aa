"""Benches: shelves that are edited, with all edits to be taken back and done again."""

from heardagain.basics import is_within
from heardagain.bounds import MAX_EDITS
from heardagain.errors import BadPoints, NothingToRedo, NothingToUndo, NoVersion, ScoreError, TooManyEdits, Unfit
from heardagain.moves import check_kind
from heardagain.places import places
from heardagain.points import figure_error
from heardagain.shelves import added, batched, dropped, names_on, score_on, shifted, with_note, without_note


class Bench:
    """A shelf, with those that there were ahead of each edit that stands, and those that were taken back."""

    def __init__(self):
        # The shelf that there was at each version, and those of the edits that were taken back, the next one last.
        self._stood = [()]
        self._undone = []
        # The names of the shelf, as only what an object itself has is iterated over.
        self._names = ()

    @property
    def shelf(self):
        """The shelf as it is now."""
        return self._stood[-1]

    @property
    def version(self):
        """The number of edits that stand."""
        return len(self._stood) - 1

    def __len__(self):
        return len(self._names)

    def __getitem__(self, name):
        return score_on(self._stood[-1], name)

    def __iter__(self):
        return iter(self._names)

    def __eq__(self, other):
        return isinstance(other, Bench) and self._stood[-1] == other._stood[-1]

    def search(self, figure, kind, least):
        """Return the places of a figure in each score that has one, by the names."""
        error = figure_error(figure)
        if error is not None:
            raise BadPoints(error)
        check_kind(kind)
        if not is_within(least, 2, len(figure)):
            raise Unfit()
        found = [(name, places(score, figure, kind, least)) for name, score in self._stood[-1]]
        return tuple([(name, own) for name, own in found if own])

    def add(self, name, score):
        """Put a name with a score on the shelf; return the version."""
        return self._edit(added(self._stood[-1], name, score))

    def drop(self, name):
        """Take a name and its score off the shelf; return the version."""
        return self._edit(dropped(self._stood[-1], name))

    def put(self, name, note):
        """Put a note into the score of a name; return the version."""
        return self._edit(with_note(self._stood[-1], name, note))

    def cut(self, name, note):
        """Take a note out of the score of a name; return the version."""
        return self._edit(without_note(self._stood[-1], name, note))

    def shift(self, name, later, higher):
        """Make all notes of the score of a name later and higher; return the version."""
        return self._edit(shifted(self._stood[-1], name, later, higher))

    def batch(self, edits):
        """Do several edits as one; return the version."""
        return self._edit(batched(self._stood[-1], edits))

    def undo(self):
        """Take back the last edit that stands; return the version."""
        if len(self._stood) == 1:
            raise NothingToUndo()
        return self._become(self._stood[:-1], self._undone + self._stood[-1:])

    def redo(self):
        """Do again the edit that was taken back last; return the version."""
        if not self._undone:
            raise NothingToRedo()
        return self._become(self._stood + self._undone[-1:], self._undone[:-1])

    def at(self, version):
        """Return the shelf that there was at a version."""
        if not is_within(version, 0, len(self._stood) - 1):
            raise NoVersion(version)
        return self._stood[version]

    def copy(self):
        """Return a bench with the same shelf and the same edits."""
        other = Bench()
        other._become(self._stood, self._undone)
        return other

    def attempt(self, work):
        """Return what work of the bench returns; if it raises a ScoreError, all is as it was ahead of it."""
        stood, undone = self._stood, self._undone
        try:
            return work(self)
        except ScoreError:
            self._become(stood, undone)
            raise

    def _edit(self, shelf):
        """Make shelf the shelf, by one more edit; return the version."""
        if len(self._stood) > MAX_EDITS:
            raise TooManyEdits()
        return self._become(self._stood + [shelf], [])

    def _become(self, stood, undone):
        """Take these shelves, in lists that are never changed, as those that stood and that were taken back."""
        self._stood = stood
        self._undone = undone
        self._names = names_on(stood[-1])
        return len(stood) - 1
