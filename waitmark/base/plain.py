"""The plain line: all wait in one row and are sent as they came."""

from waitmark.base.bounds import is_within
from waitmark.base.comers import MOST_STREAMS, check_run
from waitmark.errors import NoRate

RATE = 9
MOST_RATE = 99


class PlainRow:
    """The row of what came, and its budget, from tick to tick."""

    def __init__(self, rate):
        self.rate = rate
        self.budget = 0
        self.tick = 0
        self.came = []
        self.sent = 0
        self.left = 0

    def step(self, comers):
        """Do a tick; told are the waits of what is sent in it."""
        for comer in comers:
            self.came.append((self.tick, comer[1]))
            self.left += comer[1]
        if self.left > 0:
            self.budget += self.rate
        waits = self.send()
        if self.left == 0:
            self.budget = 0
        self.tick += 1
        return tuple(waits)

    def send(self):
        """Send as long as the budget reaches; told are the waits."""
        waits = []
        # What is sent stays in the list and is only counted: taking the first out of a long list is slow.
        while self.sent < len(self.came) and self.came[self.sent][1] <= self.budget:
            tick, size = self.came[self.sent]
            self.sent += 1
            self.budget -= size
            self.left -= size
            waits.append(self.tick - tick)
        return waits


def is_rate(thing):
    """Whether thing is a rate."""
    return is_within(thing, 1, MOST_RATE)


def check_rate(rate):
    """Refuse what is no rate."""
    if not is_rate(rate):
        raise NoRate(f"not a rate from 1 to {MOST_RATE}")


def plain_waits(run, *, rate=RATE):
    """The waits of what is sent in each tick of the run."""
    row = _row_for(run, rate)
    return tuple([row.step(comers) for comers in run])


def plain_left(run, *, rate=RATE):
    """The units that wait behind each tick of the run."""
    row = _row_for(run, rate)
    left = []
    for comers in run:
        row.step(comers)
        left.append(row.left)
    return tuple(left)


def plain_more(run, *, rate=RATE):
    """How many ticks without comers it takes behind the run till nothing waits."""
    row = _row_for(run, rate)
    return len(_all_waits(row, run)) - len(run)


def plain_longest(run, *, rate=RATE):
    """The longest wait of all that comes in the run."""
    row = _row_for(run, rate)
    return max([wait for waits in _all_waits(row, run) for wait in waits], default=0)


def _row_for(run, rate):
    check_run(MOST_STREAMS, run)
    check_rate(rate)
    return PlainRow(rate)


def _all_waits(row, run):
    """The waits of each tick of the run, then of those behind it till nothing waits."""
    told = [row.step(comers) for comers in run]
    while row.left > 0:
        told.append(row.step(()))
    return told
