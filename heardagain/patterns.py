"""Patterns: notes that stand to one another as rules and bounds tell, and where they are in a score."""

from heardagain.basics import first_fall, is_tuple_of, is_within
from heardagain.bounds import MAX_PLACES, MAX_STEP, MAX_VARIABLES
from heardagain.errors import BadPattern, TooMany
from heardagain.ties import latest_of

VOICES = ("same", "other", "any")
MOST_BOUNDS = 6
MOST_PITCHES = 8
FARTHEST_PITCH = 24


def pattern_error(value):
    """Return None for a pattern, otherwise the first thing that is wrong with value."""
    if not is_tuple_of(value, 2):
        return "form"
    rules, bounds = value
    if not isinstance(rules, tuple) or not is_within(len(rules), 1, MAX_VARIABLES - 1):
        return "rules"
    for place, rule in enumerate(rules):
        if not _is_rule(rule, place):
            return ("rule", place)
    if not isinstance(bounds, tuple) or len(bounds) > MOST_BOUNDS:
        return "bounds"
    for place, bound in enumerate(bounds):
        if not _is_bound(bound, len(rules)):
            return ("bound", place)
    return None


def check_pattern(value):
    """Raise BadPattern if value is no pattern."""
    error = pattern_error(value)
    if error is not None:
        raise BadPattern(error)


def places_of(score, pattern):
    """Return all places of a pattern in a score; raise TooMany if there are too many."""
    check_pattern(pattern)
    latest = latest_of(pattern)
    if latest is None:
        return ()
    fits = _fits(score, pattern[0], latest)
    found = []
    _go_on(fits, (), _with_fellows(fits, len(latest), len(score)), found)
    return tuple([tuple([score[place] for place in row]) for row in found])


def _is_rule(value, place):
    """Return whether value is a rule that may stand at a place."""
    if not is_tuple_of(value, 5):
        return False
    of, low, high, pitches, voice = value
    return is_within(of, 0, place) and _is_window(low, high) and _are_pitches(pitches) and voice in VOICES


def _is_bound(value, greatest):
    """Return whether value is a bound for numbers up to the greatest one."""
    if not is_tuple_of(value, 4):
        return False
    one, two, low, high = value
    return is_within(one, 0, greatest) and is_within(two, 0, greatest) and one != two and _is_window(low, high)


def _is_window(low, high):
    return is_within(low, -MAX_STEP, MAX_STEP) and is_within(high, low, MAX_STEP)


def _are_pitches(value):
    if not isinstance(value, tuple) or not is_within(len(value), 1, MOST_PITCHES):
        return False
    for item in value:
        if not is_within(item, -FARTHEST_PITCH, FARTHEST_PITCH):
            return False
    return first_fall(value) is None


def _fits(score, rules, latest):
    """Return, for two numbers, bits of the notes that may stand for the second one.

    They are told for each place of a note that stands for the first one.
    """
    many = len(latest)
    fits = {(one, two): [0] * len(score) for one in range(many) for two in range(many) if one != two}
    for two, (of, _, _, pitches, voice) in enumerate(rules, 1):
        for one in range(two):
            for place, note in enumerate(score):
                for further, other in enumerate(score):
                    fit = place != further and -latest[two][one] <= other[0] - note[0] <= latest[one][two]
                    if fit and (one != of or _goes_with(note, other, pitches, voice)):
                        fits[one, two][place] |= 1 << further
                        fits[two, one][further] |= 1 << place
    return fits


def _goes_with(note, further, pitches, voice):
    """Return whether two notes have the pitches and the voices that a rule tells."""
    return further[1] - note[1] in pitches and (voice == "any" or (further[2] == note[2]) == (voice == "same"))


def _with_fellows(fits, many, notes):
    """Return, for each number, bits of the notes that fit, for each other number, some note that has such bits, too.

    Without this a number that no note fits would be found out again and again.
    """
    left, before = [(1 << notes) - 1] * many, []
    while left != before:
        before = left
        left = [sum([1 << place for place in _bits_of(own)
                     if all([fits[one, two][place] & bits for two, bits in enumerate(before) if two != one])])
                for one, own in enumerate(before)]
    return left


def _go_on(fits, row, left, found):
    """Put to found all rows of places of notes that begin with row, ascending.

    left has, for each further number, bits of the notes that fit those of row.
    """
    if not left:
        if len(found) == MAX_PLACES:
            raise TooMany(MAX_PLACES)
        found.append(row)
        return
    one = len(row)
    for place in _bits_of(left[0]):
        further = [bits & fits[one, two][place] for two, bits in enumerate(left[1:], one + 1)]
        if 0 not in further:
            _go_on(fits, row + (place,), further, found)


def _bits_of(bits):
    """Return the places of all bits, ascending."""
    return [place for place in range(bits.bit_length()) if bits >> place & 1]
