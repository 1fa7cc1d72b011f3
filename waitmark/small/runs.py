"""Small lanes and small runs: pieces of size 1 that are never marked, one of which goes out in each tick."""

from waitmark.base.bounds import MOST_WAIT, check_number, is_within
from waitmark.errors import NoLane, NoRun
from waitmark.lanes.lanes import come_to, empty_lane, fits_lane, go_out, pass_lane, renew_lane
from waitmark.lanes.rules import check_rule
from waitmark.small.tables import is_small_run, search, shows_table

MOST = 2
MOST_EVER = 3
MOST_LIMIT = 6
# What a tick tells as the wait of what it sends where it sends nothing: less than each wait.
NOTHING_SENT = -1


class Above:
    """One rule's small lane; a tick shows otherwise where it sends what waited longer than this."""

    def __init__(self, rule, limit, wait):
        self.stream = small_stream(rule, limit)
        self.wait = wait

    def first(self):
        """The lane ahead of all runs."""
        return empty_lane(self.stream)

    def do(self, lane, many):
        """The lane behind a tick, and whether it shows otherwise."""
        lane, _, wait = do_small(self.stream, lane, many)
        return lane, wait > self.wait

    def fits(self, thing):
        """Whether thing is such a lane."""
        return is_small(self.stream, thing)


def small_done(rule, limit, lane, many):
    """The lane behind a tick in which so many come, and the words of it."""
    check_small(rule, limit)
    stream = small_stream(rule, limit)
    if not is_small(stream, lane):
        raise NoLane("no small lane of this rule and limit")
    check_number(many, 0, MOST_EVER)
    lane, words, _ = do_small(stream, lane, many)
    return lane, words


def small_words(rule, limit, run):
    """The words of each tick of a small run."""
    check_small(rule, limit)
    if not is_small_run(run, MOST_EVER):
        raise NoRun(0)
    return tuple([words for words, _ in _done(rule, limit, run)])


def greatest_wait(rule, limit, *, most=MOST):
    """(wait, run, table): the greatest wait of all that is ever sent, the run that shows it, and all the lanes."""
    check_small(rule, limit)
    check_most(most)
    wait, run = NOTHING_SENT, ()
    better, table = search(Above(rule, limit, wait), most)
    # Each search ends at the first run that is above the last one's wait: so the last of them is the first of its own.
    while better is not None:
        run = better
        wait = _last_wait(rule, limit, run)
        better, table = search(Above(rule, limit, wait), most)
    return (wait, run, table)


def shows_greatest(rule, limit, thing, *, most=MOST):
    """Whether thing is a wait, a run that shows it, and a table in which none is greater."""
    check_small(rule, limit)
    check_most(most)
    if not isinstance(thing, tuple) or len(thing) != 3:
        return False
    wait, run, table = thing
    if not is_within(wait, 0, MOST_WAIT) or not is_small_run(run, most):
        return False
    return _last_wait(rule, limit, run) == wait and shows_table(Above(rule, limit, wait), most, table)


def check_small(rule, limit):
    """Refuse what is no rule, or no limit of a small lane."""
    check_rule(rule)
    check_number(limit, 1, MOST_LIMIT)


def check_most(most):
    """Refuse what can't be the most that come in each tick."""
    check_number(most, 1, MOST_EVER)


def small_stream(rule, limit):
    """The stream whose lane is small."""
    return (1, rule, limit)


def is_small(stream, thing):
    """Whether thing is a small lane of this stream."""
    if not fits_lane(stream, thing):
        return False
    credit, pieces, _ = thing
    return credit == 0 and all([piece[:3] == (1, False, False) for piece in pieces])


def do_small(stream, lane, many):
    """The lane behind a tick, its words, and how long that waited which it sends."""
    lane = renew_lane(stream, lane)
    words = []
    for _ in range(many):
        lane, word = come_to(stream, lane, 1, False)
        words.append(word)
    wait = NOTHING_SENT
    while len(lane[1]) > 0 and wait == NOTHING_SENT:
        head = lane[1][0]
        lane, word = go_out(stream, lane)
        words.append(word)
        if word != "drop":
            wait = head[3]
    return pass_lane(stream, lane), tuple(words), wait


def _done(rule, limit, run):
    """The words of each tick of a run, and how long that waited which it sends."""
    stream = small_stream(rule, limit)
    lane = empty_lane(stream)
    told = []
    for many in run:
        lane, words, wait = do_small(stream, lane, many)
        told.append((words, wait))
    return told


def _last_wait(rule, limit, run):
    """How long that waited which the run's last tick sends."""
    told = _done(rule, limit, run)
    return told[-1][1] if len(told) > 0 else NOTHING_SENT
