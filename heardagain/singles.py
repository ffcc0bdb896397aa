"""Singles: all that the notes of a place of a pattern can be; and rings, which show that there is no place."""

from heardagain.bounds import MAX_SINGLES
from heardagain.errors import TooMany
from heardagain.patterns import check_pattern, pattern_error
from heardagain.ties import are_ring, latest_of, ring_of, tied, ties_of

# What is told of a pattern that has neither a single nor a ring.
NEITHER = ("none",)


def singles(pattern):
    """Return all singles of a pattern; raise TooMany if there are too many."""
    check_pattern(pattern)
    rules = pattern[0]
    latest = latest_of(pattern)
    if latest is None:
        return ()
    ways, found = {}, {}
    for voices in _voices_of(rules):
        for pitches in _pitches_of(rules):
            alike = _alike(pitches, voices)
            if alike not in ways:
                ways[alike] = _apart(latest, alike)
            for own in ways[alike]:
                _put_singles(own, (0,), pitches, voices, found)
    return tuple(sorted(found))


def ring(pattern):
    """Return None if a pattern has a single, otherwise a ring of it, or that there is neither."""
    check_pattern(pattern)
    if _has_single(pattern):
        return None
    return ring_of(pattern) or NEITHER


def ring_holds(pattern, value):
    """Return whether value is a ring of a pattern, or says rightly that it has neither a single nor a ring."""
    if pattern_error(pattern) is not None:
        return False
    if value == NEITHER:
        return not _has_single(pattern) and ring_of(pattern) is None
    return are_ring(ties_of(pattern), value)


def _has_single(pattern):
    """Return whether a pattern has a single."""
    latest = latest_of(pattern)
    if latest is None:
        return False
    # The more voices are unlike, the fewer notes have to be kept apart by their onsets.
    voices = _unlike_voices(pattern[0])
    lots = {_alike(pitches, voices): True for pitches in _pitches_of(pattern[0])}
    for alike in lots:
        if _apart(latest, alike):
            return True
    return False


def _pitches_of(rules):
    """Return all rows of pitches that keep the rules, the first one being 0."""
    rows = [(0,)]
    for of, _, _, pitches, _ in rules:
        rows = [row + (row[of] + pitch,) for row in rows for pitch in pitches]
    return rows


def _voices_of(rules):
    """Return all rows of voices that keep the rules, each voice being one of those ahead of it or the next one."""
    rows = [(0,)]
    for of, _, _, _, voice in rules:
        rows = [row + (own,) for row in rows for own in range(max(row) + 2)
                if voice == "any" or (own == row[of]) == (voice == "same")]
    return rows


def _unlike_voices(rules):
    """Return the row of voices that keep the rules with the most voices."""
    row = (0,)
    for of, _, _, _, voice in rules:
        row = row + (row[of] if voice == "same" else len(row),)
    return row


def _alike(pitches, voices):
    """Return the pairs of numbers, the lesser one first, whose notes are unlike by their onsets alone."""
    many = len(pitches)
    return tuple([(one, two) for two in range(many) for one in range(two)
                  if pitches[one] == pitches[two] and voices[one] == voices[two]])


def _apart(latest, pairs):
    """Return what latest becomes by all ways to tell, for each of the pairs, which note is the later one."""
    ways = [latest]
    for one, two in pairs:
        further = [tied(way, tie) for way in ways for tie in ((one, two, -1), (two, one, -1))]
        ways = [way for way in further if way is not None]
    return ways


def _put_singles(latest, onsets, pitches, voices, found):
    """Put to found all singles with these pitches and voices whose onsets begin so and keep latest."""
    number = len(onsets)
    if number == len(pitches):
        found[_told_plainly(onsets, pitches, voices)] = True
        if len(found) > MAX_SINGLES:
            raise TooMany(MAX_SINGLES)
        return
    least = max([onset - latest[number][one] for one, onset in enumerate(onsets)])
    most = min([onset + latest[one][number] for one, onset in enumerate(onsets)])
    for onset in range(least, most + 1):
        _put_singles(latest, onsets + (onset,), pitches, voices, found)


def _told_plainly(onsets, pitches, voices):
    """Return the score with notes of these onsets, pitches and voices, told plainly."""
    first, low = min(onsets), min(pitches)
    own = {(x - first, y - low, voice): True for x, y, voice in zip(onsets, pitches, voices)}
    points = sorted({note[:2] for note in own})
    # The score is least if each voice comes ahead of those that do not have the first point that just one of both has.
    order = sorted(voices, key=lambda own_voice: [point + (own_voice,) not in own for point in points])
    names = {}
    for voice in order:
        names[voice] = names.get(voice, len(names))
    return tuple(sorted([(x, y, names[voice], 1) for x, y, voice in own]))
