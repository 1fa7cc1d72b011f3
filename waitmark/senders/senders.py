"""Worlds: a line and senders, each with a window that grows and shrinks by the echoes of what it sent."""

from waitmark.base.bounds import check_number, is_within
from waitmark.base.comers import MOST_SIZE
from waitmark.base.plain import is_rate
from waitmark.errors import NoState, NoWorld
from waitmark.lanes.lanes import are_streams
from waitmark.lanes.turns import first_standing, is_standing
from waitmark.line.steps import step_on

MOST_SENDERS = 4
MOST_DELAY = 20
MOST_OUT = 16
MOST_WALKED = 400
FIRST = (1, 0, 0, ())
# What has come or is marked waits still: it brings its echo as it goes out.
ECHOES = {"send": "ok", "bell": "hit", "full": "hit", "drop": "hit"}


def is_world(thing):
    """Whether thing is a world."""
    if not isinstance(thing, tuple) or len(thing) != 3:
        return False
    streams, rate, senders = thing
    if not are_streams(streams) or len(streams) > MOST_SENDERS or not is_rate(rate):
        return False
    if not isinstance(senders, tuple) or len(senders) != len(streams):
        return False
    return all([_fits_sender(sender) for sender in senders])


def is_state(world, thing):
    """Whether thing is a state of this world."""
    check_world(world)
    if not isinstance(thing, tuple) or len(thing) != 2:
        return False
    streams, _, senders = world
    standing, states = thing
    if not is_standing(streams, standing) or not isinstance(states, tuple) or len(states) != len(senders):
        return False
    return all([_fits_state(sender, lane[1], state) for sender, lane, state in zip(senders, standing[3], states)])


def first_state(world):
    """The world's state at first."""
    check_world(world)
    streams, _, senders = world
    return (first_standing(streams), tuple([FIRST for _ in senders]))


def ticked(world, state):
    """The state behind a tick, the comers that were sent in it, and the rows of the line's step."""
    _check_state(world, state)
    return tick_on(world, state)


def walked(world, many, *, state=None):
    """The state behind so many ticks."""
    check_world(world)
    check_number(many, 0, MOST_WALKED)
    if state is None:
        state = first_state(world)
    _check_state(world, state)
    for _ in range(many):
        state, _, _ = tick_on(world, state)
    return state


def check_world(world):
    """Refuse what is no world."""
    if not is_world(world):
        raise NoWorld("no world")


def tick_on(world, state):
    """As ticked, of what is known to fit."""
    streams, rate, senders = world
    standing, states = state
    waiting = [len(lane[1]) for lane in standing[3]]
    heard = [_heard(sender, many, own) for sender, many, own in zip(senders, waiting, states)]
    comers = []
    for number, (size, can, _, _) in enumerate(senders):
        window, _, _, echoes = heard[number]
        free = max(window - waiting[number] - len(echoes), 0)
        comers.extend([(number, size, can)] * free)
    standing, rows = step_on(streams, rate, standing, tuple(comers))
    behind = [_echoed(number, sender, heard[number], rows) for number, sender in enumerate(senders)]
    return (standing, tuple(behind)), tuple(comers), rows


def _heard(sender, waiting, state):
    """A sender's state as it has heard its echoes that are due, so many of its pieces being in the line."""
    most = sender[3]
    window, grown, shut, echoes = state
    due = [word for left, word in echoes if left == 0]
    out = waiting + len(echoes)
    for word in due:
        out -= 1
        if shut > 0:
            # What was out at the last hit tells of the time ahead of it: it is heard once, not again and again.
            shut -= 1
        elif word == "hit":
            window, grown, shut = max(window // 2, 1), 0, out
        elif grown + 1 == window:
            window, grown = min(window + 1, most), 0
        else:
            grown += 1
    return (window, grown, shut, echoes[len(due):])


def _echoed(number, sender, state, rows):
    """A sender's state behind the tick: what its own rows bring comes behind the echoes that are there."""
    window, grown, shut, echoes = state
    brought = [(sender[2], ECHOES[word]) for word, stream, _, _ in rows if stream == number and word in ECHOES]
    return (window, grown, shut, tuple([(left - 1, word) for left, word in [*echoes, *brought]]))


def _fits_sender(thing):
    if not isinstance(thing, tuple) or len(thing) != 4:
        return False
    size, can, delay, most = thing
    if not is_within(size, 1, MOST_SIZE) or not isinstance(can, bool):
        return False
    return is_within(delay, 1, MOST_DELAY) and is_within(most, 1, MOST_OUT)


def _fits_state(sender, pieces, thing):
    if not isinstance(thing, tuple) or len(thing) != 4:
        return False
    size, can, delay, most = sender
    window, grown, shut, echoes = thing
    if not is_within(window, 1, most) or not is_within(grown, 0, window - 1) or not is_within(shut, 0, most):
        return False
    if not _fit_echoes(delay, echoes) or len(pieces) + len(echoes) > most:
        return False
    return all([piece[0] == size and piece[1] == can for piece in pieces])


def _fit_echoes(delay, thing):
    if not isinstance(thing, tuple) or not all([_fits_echo(delay, echo) for echo in thing]):
        return False
    lefts = [left for left, _ in thing]
    return lefts == sorted(lefts)


def _fits_echo(delay, thing):
    if not isinstance(thing, tuple) or len(thing) != 2:
        return False
    left, word = thing
    return is_within(left, 0, delay - 1) and word in ("ok", "hit")


def _check_state(world, state):
    if not is_state(world, state):
        raise NoState("no state of this world")
