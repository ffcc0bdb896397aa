"""Ties: by how much at most the note of one number of a pattern is later than that of another one; and rings."""

from heardagain.basics import is_integer, is_tuple_of
from heardagain.bounds import MAX_STEP, MAX_VARIABLES


def ties_of(pattern):
    """Return the ties of a pattern, first those of its rules, each one two ways."""
    rules, bounds = pattern
    found = []
    for place, (of, low, high, _, _) in enumerate(rules):
        found.extend([(of, place + 1, high), (place + 1, of, -low)])
    for one, two, low, high in bounds:
        found.extend([(one, two, high), (two, one, -low)])
    return tuple(found)


def latest_of(pattern):
    """Return, for each number and each other one, by how much at most the second one is later by all ties together.

    It is None if the ties can't be kept together.
    """
    many = len(pattern[0]) + 1
    # The rules tie each number to an earlier one, so no two notes of a place are so far apart.
    beyond = MAX_STEP * MAX_VARIABLES
    latest = tuple([tuple([0 if one == two else beyond for two in range(many)]) for one in range(many)])
    for tie in ties_of(pattern):
        if latest is not None:
            latest = tied(latest, tie)
    return latest


def tied(latest, tie):
    """Return what latest, as latest_of returns it, becomes with one more tie, None if this can't be kept."""
    one, two, most = tie
    if latest[two][one] + most < 0:
        return None
    return tuple([_row_tied(row, row[one] + most, latest[two]) for row in latest])


def _row_tied(row, most, further):
    """Return a row of latest as it becomes if the number that has the row further is later by most at most."""
    return tuple([min(own, most + more) for own, more in zip(row, further)])


def ring_of(pattern):
    """Return a ring of a pattern, None if there is none."""
    ties = ties_of(pattern)
    # The rows of ties with the least sum from each number to each other one, of so many ties; if there is a ring, there
    # is one that comes to no number twice, so it has no more ties than there are numbers.
    rows = {(one, one): (0, ()) for one in range(len(pattern[0]) + 1)}
    for _ in range(len(pattern[0]) + 1):
        rows = _longer(rows, ties)
        for (begin, end), (most, row) in rows.items():
            if begin == end and most < 0:
                return row
    return None


def are_ring(ties, value):
    """Return whether value is a tuple of some of these ties that goes round, with a sum below 0."""
    if not isinstance(value, tuple):
        return False
    for item in value:
        if not is_tuple_of(item, 3) or not all([is_integer(part) for part in item]) or item not in ties:
            return False
    goals = [two for _, two, _ in value]
    return [one for one, _, _ in value] == goals[-1:] + goals[:-1] and sum([most for _, _, most in value]) < 0


def _longer(rows, ties):
    """Return the rows with the least sum that have one tie more."""
    found = {}
    for (begin, end), (far, row) in rows.items():
        for one, two, most in ties:
            if one == end and ((begin, two) not in found or far + most < found[begin, two][0]):
                found[begin, two] = (far + most, row + ((one, two, most),))
    return found
