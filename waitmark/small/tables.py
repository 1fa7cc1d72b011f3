"""Tables of all that small runs come to, and the searches and judges of these.

What is gone through is told by an object: first() is the row ahead of all runs, do(row, count) the row behind a
tick and whether that tick shows otherwise, fits(thing) whether thing is a row at all.
"""

from waitmark.base.bounds import is_within
from waitmark.errors import TooWide

MOST_ROWS = 1500
LONGEST_RUN = 1500


def is_small_run(thing, most):
    """Whether thing is a small run, of counts from 0 to most."""
    if not isinstance(thing, tuple) or len(thing) > LONGEST_RUN:
        return False
    return all([is_within(many, 0, most) for many in thing])


def search(lanes, most):
    """(run, rows): a shortest run whose last tick shows otherwise, of these the least, or None of a whole table."""
    rows, ways, known = [lanes.first()], [None], {lanes.first(): True}
    place = 0
    # Row by row, count by count: so runs come as they are told to, shorter ones first, then as Python sorts.
    while place < len(rows):
        for many in range(most + 1):
            row, otherwise = lanes.do(rows[place], many)
            if otherwise:
                return _run_to(ways, place, many), tuple(rows)
            if row in known:
                continue
            if len(rows) == MOST_ROWS:
                raise TooWide(f"more than {MOST_ROWS} rows")
            known[row] = True
            rows.append(row)
            ways.append((place, many))
        place += 1
    return None, tuple(rows)


def shows_table(lanes, most, thing):
    """Whether thing is a table, in no tick of which anything shows otherwise."""
    if not isinstance(thing, tuple) or len(thing) > MOST_ROWS or not all([lanes.fits(row) for row in thing]):
        return False
    known = {row: True for row in thing}
    if len(known) < len(thing) or lanes.first() not in known:
        return False
    for row in thing:
        for many in range(most + 1):
            behind, otherwise = lanes.do(row, many)
            if otherwise or behind not in known:
                return False
    return True


def shows_run(lanes, most, thing):
    """Whether thing is a run whose last tick shows otherwise."""
    if not is_small_run(thing, most):
        return False
    row, otherwise = lanes.first(), False
    for many in thing:
        row, otherwise = lanes.do(row, many)
    return otherwise


def _run_to(ways, place, many):
    """The run that first comes to the row of this place, and then a tick of so many."""
    counts = [many]
    while ways[place] is not None:
        place, count = ways[place]
        counts.append(count)
    return tuple(counts[::-1])
