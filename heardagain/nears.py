"""Near lines: pitches that are led into others, some left out, put in or changed, each at a price."""

from heardagain.basics import is_integer, is_tuple_of


def near(pitches, others, prices):
    """Return the least price of a near way for any v, with a v and the run of a near way of this price."""
    # For a v that is no difference nothing is kept, so no such v is cheaper than 0.
    raisings = sorted(set([0] + _differences(pitches, others)))
    price, v = min([(near_price(pitches, others, prices, raising), raising) for raising in raisings])
    begin = _table(pitches, others, prices, v)[0].index(price)
    return (price, v, begin, _end(pitches, others, prices, v, begin))


def near_price(pitches, others, prices, v):
    """Return the least price of a near way for v, over all runs."""
    return min(_table(pitches, others, prices, v)[0])


def near_paper(pitches, others, prices):
    """Return each difference, and at last None for all other integers, with its table."""
    return tuple([(v, _table(pitches, others, prices, v)) for v in _differences(pitches, others) + [None]])


def near_holds(pitches, others, prices, price, value):
    """Return whether value tells by its tables that no near way has a lesser price."""
    raisings = _differences(pitches, others) + [None]
    if not is_tuple_of(value, len(raisings)):
        return False
    for v, pair in zip(raisings, value):
        if not is_tuple_of(pair, 2) or not _is_raising(pair[0], v):
            return False
        table = pair[1]
        if not _is_table(table, len(pitches) + 1, len(others) + 1) or min(table[0]) < price or max(table[-1]) > 0:
            return False
        if not _is_kept_low(table, pitches, others, prices, v):
            return False
    return True


def _differences(pitches, others):
    """Return all differences, ascending, each once."""
    return sorted({other - pitch for pitch in pitches for other in others})


def _table(pitches, others, prices, v):
    """Return the table for v, or, if this is None, for all integers that are no differences."""
    rows = [(0,) * (len(others) + 1)]
    for place in range(len(pitches) - 1, -1, -1):
        # The columns come from the last one on, as each one looks at the one behind it.
        row = []
        for at in range(len(others), -1, -1):
            behind = row[-1] if row else None
            row.append(min(_ways(pitches[place], others[at:at + 1], prices, v, behind, rows[-1][at:at + 2])))
        rows.append(tuple(row[::-1]))
    return tuple(rows[::-1])


def _ways(pitch, heard, prices, v, behind, below):
    """Return the prices of all ways to go on with a pitch at a column: left out, an item put in ahead of it, or led.

    heard has the item at the column, or none behind the last one. behind is the price at the next column of this row,
    below has those at this column and at the next one of the next row.
    """
    left, put, changed = prices
    if not heard:
        return [left + below[0]]
    kept = v is not None and heard[0] == pitch + v
    return [left + below[0], put + behind, below[1] + (0 if kept else changed)]


def _end(pitches, others, prices, v, begin):
    """Return the end of a run with this begin into which a near way for v of the least price for it leads."""
    table = _table(pitches, others, prices, v)
    place, at = 0, begin
    while place < len(pitches):
        ways = _ways_at(table, place, at, pitches, others, prices, v)
        if ways[0] == table[place][at]:
            place += 1
        elif ways[1] == table[place][at]:
            at += 1
        else:
            place, at = place + 1, at + 1
    return at


def _ways_at(table, place, at, pitches, others, prices, v):
    """Return the prices of all ways to go on at a row and a column of a table."""
    behind = table[place][at + 1] if at < len(others) else None
    return _ways(pitches[place], others[at:at + 1], prices, v, behind, table[place + 1][at:at + 2])


def _is_raising(value, v):
    """Return whether value is just v, which is an integer or None."""
    if v is None:
        return value is None
    return is_integer(value) and value == v


def _is_table(value, rows, columns):
    """Return whether value is a tuple of so many tuples of so many integers."""
    if not is_tuple_of(value, rows):
        return False
    for row in value:
        if not is_tuple_of(row, columns) or not all([is_integer(item) for item in row]):
            return False
    return True


def _is_kept_low(table, pitches, others, prices, v):
    """Return whether no item ahead of the last row is greater than what a way to go on from it makes."""
    for place in range(len(pitches)):
        for at in range(len(others) + 1):
            if table[place][at] > min(_ways_at(table, place, at, pitches, others, prices, v)):
                return False
    return True
