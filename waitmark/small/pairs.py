"""Two rules held against each other on all small runs: whether they are alike, whether one's lane gets longer."""

from waitmark.base.bounds import check_number
from waitmark.lanes.lanes import empty_lane
from waitmark.lanes.rules import check_rule
from waitmark.small.runs import MOST, check_most, check_small, do_small, is_small, small_stream
from waitmark.small.tables import search, shows_run, shows_table

MOST_OVER = 5


class Joint:
    """Two small lanes that do the same counts; a tick shows otherwise by its words, or by the pieces behind it.

    Where over is None, it is by the words that aren't alike; else by more than so many pieces more in the first.
    """

    def __init__(self, one, other, limit, over):
        self.one = small_stream(one, limit)
        self.other = small_stream(other, limit)
        self.over = over

    def first(self):
        """The pair ahead of all runs."""
        return (empty_lane(self.one), empty_lane(self.other))

    def do(self, pair, many):
        """The pair behind a tick, and whether it shows otherwise."""
        one, words, _ = do_small(self.one, pair[0], many)
        other, others, _ = do_small(self.other, pair[1], many)
        if self.over is None:
            return (one, other), words != others
        return (one, other), len(one[1]) - len(other[1]) > self.over

    def fits(self, thing):
        """Whether thing is such a pair."""
        if not isinstance(thing, tuple) or len(thing) != 2:
            return False
        return is_small(self.one, thing[0]) and is_small(self.other, thing[1])


def alike(one, other, limit, *, most=MOST):
    """("alike", table), or ("unlike", run) in whose last tick the words aren't."""
    _check_joint(one, other, limit)
    check_most(most)
    return _told(Joint(one, other, limit, None), most, "alike", "unlike")


def shows_alike(one, other, limit, thing, *, most=MOST):
    """Whether thing is any such table or run."""
    _check_joint(one, other, limit)
    check_most(most)
    return _shows(Joint(one, other, limit, None), most, "alike", "unlike", thing)


def longer(one, other, limit, over, *, most=MOST):
    """("never", table), or ("longer", run) behind whose last tick the first one's lane is longer by more than over."""
    _check_joint(one, other, limit)
    check_number(over, 0, MOST_OVER)
    check_most(most)
    return _told(Joint(one, other, limit, over), most, "never", "longer")


def shows_longer(one, other, limit, over, thing, *, most=MOST):
    """Whether thing is any such table or run."""
    _check_joint(one, other, limit)
    check_number(over, 0, MOST_OVER)
    check_most(most)
    return _shows(Joint(one, other, limit, over), most, "never", "longer", thing)


def _told(joint, most, by_table, by_run):
    run, rows = search(joint, most)
    if run is None:
        return (by_table, rows)
    return (by_run, run)


def _shows(joint, most, by_table, by_run, thing):
    if not isinstance(thing, tuple) or len(thing) != 2:
        return False
    word, shown = thing
    if word == by_table:
        return shows_table(joint, most, shown)
    return word == by_run and shows_run(joint, most, shown)


def _check_joint(one, other, limit):
    check_rule(one)
    check_small(other, limit)
