"""Lines, and followings: where stretches of a line are heard in another one, note by note."""

from heardagain.basics import is_integer
from heardagain.bounds import MAX_LINE
from heardagain.errors import NoVoice, TooMany, Unfit
from heardagain.moves import check_kind, flips, is_of, lands, stretch, turns
from heardagain.scores import voices_of

STILL = ((1, 1), (0, 1), 1, 0)
LEAST_FOLLOWING = 3


def line_of(score, voice):
    """Return the line of a voice of a score; raise NoVoice, Unfit or TooMany if there is none."""
    if not is_integer(voice) or voice not in voices_of(score):
        raise NoVoice(voice)
    line = tuple([note[:2] for note in score if note[2] == voice])
    if len({onset for onset, _ in line}) < len(line):
        raise Unfit()
    if len(line) > MAX_LINE:
        raise TooMany(MAX_LINE)
    return line


def followings(line, other, kind, least):
    """Return all followings of two lines with so many notes at least, by moves of a kind."""
    check_kind(kind)
    if least < LEAST_FOLLOWING:
        raise Unfit()
    found = []
    for sign in turns(kind):
        for row in _rows(len(line), len(other), sign):
            pairs = [(line[place], other[further]) for place, further in row]
            for e in flips(kind):
                for at, many, move in _runs(pairs, e):
                    begin = min(row[at][1], row[at + many - 1][1])
                    found.append((row[at][0], begin, many, move))
    still = line == other
    return tuple(sorted([one for one in found if one[2] >= least and is_of(kind, one[3])
                         and not (still and one[3] == STILL)]))


def _rows(many, others, sign):
    """Return all rows of pairs of places, one of many and one of others, in which stretches with a q of a sign lie.

    From pair to pair the first place becomes greater by 1, the second one by sign.
    """
    if sign > 0:
        rows = [[(place, start + place) for place in range(many)] for start in range(1 - many, others)]
    else:
        rows = [[(place, start - place) for place in range(many)] for start in range(many + others - 1)]
    return [[(place, further) for place, further in row if 0 <= further < others] for row in rows]


def _runs(pairs, e):
    """Return the place, the length and the move of each run of pairs that a move with this e leads, but not further.

    A move leads a pair if it leads its first point to its second one. All runs have two pairs or more.
    """
    runs = []
    for at in range(len(pairs) - 1):
        move = _move_of(pairs[at], pairs[at + 1], e)
        if move is not None and (at == 0 or not _leads(move, pairs[at - 1])):
            many = 2
            while at + many < len(pairs) and _leads(move, pairs[at + many]):
                many += 1
            runs.append((at, many, move))
    return runs


def _move_of(one, two, e):
    """Return the move with this e that leads two pairs, None if there is none."""
    ((x, y), (begin, low)), ((further, high), (end, top)) = one, two
    if top - low != e * (high - y):
        return None
    return stretch(x, further, begin, end) + (e, low - e * y)


def _leads(move, pair):
    return lands(move, pair[0]) == pair[1]
