"""The share rule: of so many thousand comers as many are struck as the share says, and it follows the waits."""

from waitmark.base.bounds import check_number, check_wait, is_within
from waitmark.errors import NoMemory, NoRule

MOST_MARK = 99
MOST_PERIOD = 99
MOST_FACTOR = 999
MOST_OLD = 99
WHOLE_SHARE = 1000
MOST_COME = 9999


def is_share(thing):
    """Whether thing is a share rule."""
    if not isinstance(thing, tuple) or len(thing) != 5:
        return False
    word, mark, period, up, turn = thing
    if word != "share" or not is_within(mark, 1, MOST_MARK) or not is_within(period, 1, MOST_PERIOD):
        return False
    return is_within(up, 0, MOST_FACTOR) and is_within(turn, 0, MOST_FACTOR)


def is_share_memory(rule, thing):
    """Whether thing is a memory of this share rule."""
    _check_share(rule)
    return fits_share(rule, thing)


def share_first(rule):
    """The memory at first."""
    _check_share(rule)
    return (0, 0, 0, 0)


def share_renewed(rule, memory, wait):
    """The memory behind a tick's begin, by the head's wait: another one at phase 0 alone."""
    _check_memory(rule, memory)
    check_wait(wait)
    return renew_share(rule, memory, wait)


def share_come(rule, memory):
    """The memory as one has come in, and whether that one is struck."""
    _check_memory(rule, memory)
    return come_share(memory)


def share_passed(rule, memory):
    """The memory behind a tick that passes."""
    _check_memory(rule, memory)
    return pass_share(rule, memory)


def share_struck(rule, memory, many):
    """Which of so many comers of one tick are struck."""
    _check_memory(rule, memory)
    check_number(many, 0, MOST_COME)
    now = memory
    numbers = []
    for number in range(many):
        now, struck = come_share(now)
        if struck:
            numbers.append(number)
    return tuple(numbers)


def fits_share(rule, thing):
    """Whether thing is a memory of a rule that is known to be a share one."""
    if not isinstance(thing, tuple) or len(thing) != 4:
        return False
    phase, share, old, total = thing
    if not is_within(phase, 0, rule[2] - 1) or not is_within(share, 0, WHOLE_SHARE):
        return False
    return is_within(old, 0, MOST_OLD) and is_within(total, 0, WHOLE_SHARE - 1)


def renew_share(rule, memory, wait):
    """As share_renewed, of what is known to fit."""
    phase, share, old, total = memory
    if phase > 0:
        return memory
    mark, up, turn = rule[1], rule[3], rule[4]
    told = min(wait, MOST_OLD)
    share = share + up * (told - mark) + turn * (told - old)
    return (phase, max(0, min(share, WHOLE_SHARE)), told, total)


def come_share(memory):
    """As share_come, of what is known to fit."""
    phase, share, old, total = memory
    total = total + share
    if total >= WHOLE_SHARE:
        return (phase, share, old, total - WHOLE_SHARE), True
    return (phase, share, old, total), False


def pass_share(rule, memory):
    """As share_passed, of what is known to fit."""
    phase, share, old, total = memory
    if phase == 0:
        phase = rule[2]
    return (phase - 1, share, old, total)


def _check_share(rule):
    if not is_share(rule):
        raise NoRule("no share rule")


def _check_memory(rule, memory):
    if not is_share_memory(rule, memory):
        raise NoMemory("no memory of this share rule")
