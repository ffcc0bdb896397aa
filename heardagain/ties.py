"""Ties: by how much at most the note of one number of a pattern is later than that of another one."""

from heardagain.bounds import MAX_STEP, MAX_VARIABLES

# The rules tie each number to an earlier one, so no two notes of a place are so far apart.
BEYOND = MAX_STEP * MAX_VARIABLES


def ties_of(pattern):
    """Return the ties of a pattern, first those of its rules, each one two ways."""
    rules, bounds = pattern
    found = []
    for place, (of, low, high, _, _) in enumerate(rules):
        found.extend([(of, place + 1, high), (place + 1, of, -low)])
    for one, two, low, high in bounds:
        found.extend([(one, two, high), (two, one, -low)])
    return tuple(found)


def latest_of(pattern):
    """Return, for each number and each other one, by how much at most the second one is later by all ties together.

    It is None if the ties can't be kept together.
    """
    many = len(pattern[0]) + 1
    latest = tuple([tuple([0 if one == two else BEYOND for two in range(many)]) for one in range(many)])
    for tie in ties_of(pattern):
        if latest is not None:
            latest = tied(latest, tie)
    return latest


def tied(latest, tie):
    """Return what latest, as latest_of returns it, becomes with one more tie, None if this can't be kept."""
    one, two, most = tie
    if latest[two][one] + most < 0:
        return None
    return tuple([_row_tied(row, row[one] + most, latest[two]) for row in latest])


def _row_tied(row, most, further):
    """Return a row of latest, if the number of the row further can be later by most at most."""
    return tuple([min(own, most + more) for own, more in zip(row, further)])
