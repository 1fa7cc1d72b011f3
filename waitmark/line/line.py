"""The line: it does steps, and takes them back."""

from waitmark.base.comers import LONGEST_RUN, are_comers
from waitmark.base.plain import RATE
from waitmark.errors import NoComers, NoDeed, NoRun
from waitmark.lanes.lanes import lane_units
from waitmark.lanes.turns import check_line, first_standing
from waitmark.line.steps import step_on


class Line:
    """Streams, a rate, and a standing that goes on step by step."""

    def __init__(self, streams, *, rate=RATE, standing=None):
        if standing is None:
            standing = first_standing(streams)
        check_line(streams, rate, standing)
        self._streams = streams
        self._rate = rate
        self._standing = standing
        self._past = []
        self._rows = []
        self._diary = []

    def step(self, comers=()):
        """Do a step; told are its rows."""
        if not self._fit(comers):
            self._diary.append(("step", "refused"))
            raise NoComers(f"no comers of {len(self._streams)} streams")
        return self._go_on(comers)

    def run(self, run):
        """Do the ticks of a run, one behind another; told are the rows of each."""
        if not isinstance(run, tuple) or len(run) > LONGEST_RUN:
            self._diary.append(("run", "refused"))
            raise NoRun(0)
        place = len(self._diary)
        # The run's own pair stands ahead of those of its steps: it is set right where one is refused.
        self._diary.append(("run", "done"))
        told = []
        for tick, comers in enumerate(run):
            if not self._fit(comers):
                self._diary[place] = ("run", "refused")
                raise NoRun(tick)
            told.append(self._go_on(comers))
        return tuple(told)

    def standing(self):
        """The standing now."""
        return self._standing

    def journal(self):
        """The rows of each step."""
        return tuple(self._rows)

    def waiting(self):
        """The units that wait of each stream."""
        return tuple([lane_units(lane) for lane in self._standing[3]])

    def back(self):
        """Take the last step back that isn't yet."""
        if len(self._past) == 0:
            self._diary.append(("back", "refused"))
            raise NoDeed("no step is left to take back")
        self._standing = self._past.pop()
        self._rows.pop()
        self._diary.append(("back", "done"))

    def diary(self):
        """A pair (word, end) of each deed that was asked since this was last told."""
        pairs = tuple(self._diary)
        self._diary = []
        return pairs

    def __eq__(self, other):
        return (isinstance(other, Line) and self._streams == other._streams and self._rate == other._rate
                and self._standing == other._standing)

    def __len__(self):
        return len([piece for lane in self._standing[3] for piece in lane[1]])

    def __repr__(self):
        return f"Line({len(self._streams)} streams, {len(self)} waiting)"

    def _fit(self, comers):
        return are_comers(len(self._streams), comers)

    def _go_on(self, comers):
        """Do a step by comers that fit."""
        standing, rows = step_on(self._streams, self._rate, self._standing, comers)
        self._past.append(self._standing)
        self._rows.append(rows)
        self._standing = standing
        self._diary.append(("step", "done"))
        return rows
