"""Scores that are kept: they are edited note by note, and what is told of them goes on with them."""

from heardagain.basics import is_within
from heardagain.bounds import MAX_NOTES, MAX_STANDING
from heardagain.closed import closed_pairs
from heardagain.errors import BadPoints, BadScore, NoName, NoNote, NoVersion, Taken, TooMany, Unfit
from heardagain.keys import counted, step_of
from heardagain.moves import STRETCHING, check_kind
from heardagain.names import is_name
from heardagain.points import figure_error
from heardagain.scores import is_note, points_of, score_error
from heardagain.standing import Standing


class Kept:
    """A score that is edited, with the steps of its points and with standing searches."""

    def __init__(self, score):
        error = score_error(score)
        if error is not None:
            raise BadScore(error)
        self._score = score
        self._version = 0
        self._looks = 0
        # The step of any two points of the score, by both points, the lesser one first.
        self._between = {}
        self._searches = {}
        points = points_of(score)
        for place, point in enumerate(points):
            self._look_at(point, points[:place])

    @property
    def score(self):
        """The score as it is now."""
        return self._score

    @property
    def version(self):
        """The number of edits."""
        return self._version

    @property
    def steps(self):
        """All steps of the points of the score, each with how often it comes."""
        return counted(list(self._between.values()))

    @property
    def looks(self):
        """How many times a point was looked at beside another one."""
        return self._looks

    def put(self, note):
        """Put a note into the score; return the version."""
        if not is_note(note):
            raise BadScore(("note", 0))
        if note[:3] in [own[:3] for own in self._score]:
            raise Taken(note)
        if len(self._score) >= MAX_NOTES:
            raise BadScore("many")
        points = points_of(self._score)
        is_new = note[:2] not in points
        if is_new:
            self._look_at(note[:2], points)
        return self._edit(tuple(sorted(self._score + (note,))), is_new)

    def cut(self, note):
        """Take a note out of the score; return the version."""
        if not is_note(note) or note not in self._score:
            raise NoNote(note)
        score = tuple([own for own in self._score if own != note])
        is_gone = note[:2] not in points_of(score)
        if is_gone:
            self._forget(note[:2])
        return self._edit(score, is_gone)

    def stand(self, name, figure, kind, least):
        """Begin a standing search; return its places."""
        if not is_name(name):
            raise NoName(name)
        if name in self._searches:
            raise Taken(name)
        error = figure_error(figure)
        if error is not None:
            raise BadPoints(error)
        check_kind(kind)
        if kind in STRETCHING or not is_within(least, 2, len(figure)):
            raise Unfit()
        if len(self._searches) >= MAX_STANDING:
            raise TooMany(MAX_STANDING)
        self._searches[name] = Standing(self._score, figure, kind, least)
        return self._searches[name].found

    def drop(self, name):
        """End a standing search."""
        self._check_standing(name)
        del self._searches[name]

    def places(self, name):
        """Return the places of a standing search."""
        self._check_standing(name)
        return self._searches[name].found

    def news(self, since):
        """Return all events of edits behind a version, for the searches that stand."""
        if not is_within(since, 0, self._version):
            raise NoVersion(since)
        rows = [(version, name, word, move) for name, search in self._searches.items()
                for version, word, move in search.events if version > since]
        return tuple([(word, version, name, move) for version, name, word, move in sorted(rows)])

    def closed(self):
        """Return all closed pairs of the score; raise TooMany if there are too many."""
        return closed_pairs(self._score)

    def _edit(self, score, is_other):
        """Make score the score; is_other tells whether its points are others than they were. Return the version."""
        self._score = score
        self._version += 1
        if is_other:
            for search in list(self._searches.values()):
                search.go_on(score, self._version)
        return self._version

    def _look_at(self, point, points):
        """Look at a new point beside points."""
        for other in points:
            one, two = min(point, other), max(point, other)
            self._between[one, two] = step_of(one, two)
            self._looks += 1

    def _forget(self, point):
        """Forget the steps of a point that is gone."""
        self._between = {pair: step for pair, step in self._between.items() if point not in pair}

    def _check_standing(self, name):
        """Raise NoName if no search of this name stands."""
        if not is_name(name) or name not in self._searches:
            raise NoName(name)
