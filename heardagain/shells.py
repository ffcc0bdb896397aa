"""Shells: benches that are talked to in lines of text."""

from heardagain.benches import Bench
from heardagain.closed import closed_pairs
from heardagain.errors import ScoreError
from heardagain.fronts import front
from heardagain.scoretexts import read_integer, read_points, read_score, score_text

# What is told of a line that is none of those that are known.
WHAT = "what"
NONE = "none"
# What stands for a line feed in the text of a score, as a line is one line.
FEED = " / "
MOST_FIGURES = 6


class Shell:
    """A bench of its own, and answers to lines."""

    def __init__(self):
        self._bench = Bench()

    def say(self, line):
        """Do what a line says; return the answer."""
        if not isinstance(line, str):
            return WHAT
        word, blank, rest = line.partition(" ")
        try:
            answer = _told(self._bench, word, rest) if blank else _done(self._bench, word)
        except ScoreError as error:
            return "error " + error.__class__.__name__
        return WHAT if answer is None else answer


def _done(bench, line):
    """Return the answer to a line without a blank, None if it is not known."""
    if line == "undo":
        return _version(bench.undo())
    if line == "redo":
        return _version(bench.redo())
    if line == "names":
        return " ".join(list(bench)) or NONE
    return None


def _told(bench, word, rest):
    """Return the answer to a line of a word, a blank and a rest, None if it is not known."""
    if word == "score":
        return _scored(bench, rest)
    if word == "find":
        return _found(bench, rest)
    name, *integers = rest.split(" ")
    integers = [read_integer(integer, MOST_FIGURES) for integer in integers]
    if not name or None in integers:
        return None
    if word in ("put", "cut", "shift"):
        return _edited(bench, word, name, integers)
    if integers:
        return None
    return _told_of(bench, word, name)


def _scored(bench, rest):
    """Return the answer to a line that puts a score on the shelf, told behind its word."""
    name, blank, text = rest.partition(" ")
    if not name or not blank:
        return None
    return _version(bench.add(name, read_score(text.replace(FEED, "\n"))))


def _found(bench, rest):
    """Return the answer to a line that looks for a figure, told behind its word."""
    kind, _, behind = rest.partition(" ")
    integer, blank, text = behind.partition(" ")
    least = read_integer(integer, MOST_FIGURES)
    if not kind or least is None or not blank:
        return None
    found = bench.search(read_points(text), kind, least)
    return " ".join([f"{name}:{len(own)}" for name, own in found]) or NONE


def _edited(bench, word, name, integers):
    """Return the answer to a line that edits a score by integers, None if there are not as many as it needs."""
    if word == "shift" and len(integers) == 2:
        return _version(bench.shift(name, integers[0], integers[1]))
    if word == "put" and len(integers) == 4:
        return _version(bench.put(name, tuple(integers)))
    if word == "cut" and len(integers) == 4:
        return _version(bench.cut(name, tuple(integers)))
    return None


def _told_of(bench, word, name):
    """Return the answer to a line of a word and a name alone, None if the word is not known."""
    if word == "drop":
        return _version(bench.drop(name))
    if word == "show":
        return score_text(bench[name]).replace("\n", FEED)
    if word == "pairs":
        return str(len(closed_pairs(bench[name])))
    if word == "front":
        return " ".join([f"{places}:{points}" for places, points in front(bench[name])]) or NONE
    return None


def _version(version):
    return f"version {version}"
