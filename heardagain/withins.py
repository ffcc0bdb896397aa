"""Which patterns hold others in all scores, and scores in which two patterns share a note."""

from heardagain.basics import is_within
from heardagain.bounds import MAX_PITCH
from heardagain.errors import Unfit
from heardagain.patterns import check_pattern, places_of
from heardagain.singles import singles


def within(pattern, other):
    """Return None if each score with a place of a pattern has one of the other, otherwise a single without one."""
    check_pattern(pattern)
    check_pattern(other)
    for single in singles(pattern):
        if not places_of(single, other):
            return single
    return None


def alike_patterns(pattern, other):
    """Return whether two patterns have places in the same scores."""
    check_pattern(pattern)
    check_pattern(other)
    return singles(pattern) == singles(other)


def at_one_note(pattern, one, other, two):
    """Return a score of a place of each pattern that share the notes of two numbers, None if there is none."""
    check_pattern(pattern)
    check_pattern(other)
    if not is_within(one, 0, len(pattern[0])) or not is_within(two, 0, len(other[0])):
        raise Unfit()
    ways, further = _lowest(pattern, one), _lowest(other, two)
    for low, (high, place) in ways.items():
        for deep, (top, row) in further.items():
            if max(high, top) - min(low, deep) <= MAX_PITCH:
                return _put_together(place, place[one], row, row[two])
    return None


def _lowest(pattern, number):
    """Return, by how low below the note of a number the least pitch of a place is, a place that is least high above it.

    Each place comes with how high it is.
    """
    found = {}
    for single in singles(pattern):
        for place in places_of(single, pattern):
            pitches = [note[1] - place[number][1] for note in place]
            low, high = min(pitches), max(pitches)
            if low not in found or high < found[low][0]:
                found[low] = (high, place)
    return found


def _put_together(place, note, row, other):
    """Return the score of the notes of two places, the second one led so that one of its notes becomes a note."""
    later, higher = note[0] - other[0], note[1] - other[1]
    # To exchange two voices keeps all unlike voices unlike, and brings no further one.
    voices = {other[2]: note[2], note[2]: other[2]}
    led = [(x + later, y + higher, voices.get(voice, voice)) for x, y, voice, _ in row]
    notes = [own[:3] for own in place] + led
    first, low = min([x for x, _, _ in notes]), min([y for _, y, _ in notes])
    return tuple(sorted({(x - first, y - low, voice, 1) for x, y, voice in notes}))
