"""The late rule: a head that is late for a whole span is struck, then others at ever shorter gaps."""

from waitmark.base.bounds import check_number, check_wait, is_within
from waitmark.base.roots import gap
from waitmark.errors import NoMemory, NoRule

MOST_MARK = 99
MOST_SPAN = 99
MOST_STRIKES = 99


def is_late(thing):
    """Whether thing is a late rule."""
    if not isinstance(thing, tuple) or len(thing) != 3:
        return False
    word, mark, span = thing
    return word == "late" and is_within(mark, 1, MOST_MARK) and is_within(span, 1, MOST_SPAN)


def is_late_memory(rule, thing):
    """Whether thing is a memory of this late rule."""
    _check_late(rule)
    return fits_late(rule, thing)


def late_first(rule):
    """The memory at first."""
    _check_late(rule)
    return (None, None, 0)


def late_looked(rule, memory, wait, *, alone=False):
    """The memory behind a look at a head, and whether the head is struck."""
    _check_memory(rule, memory)
    check_wait(wait)
    return look_late(rule, memory, wait, alone)


def late_passed(rule, memory):
    """The memory behind a tick that passes."""
    _check_memory(rule, memory)
    return pass_late(rule, memory)


def late_ticks(rule, many):
    """The ticks of the first so many strikes, where the head is late in each tick."""
    _check_late(rule)
    check_number(many, 0, MOST_STRIKES)
    span = rule[2]
    ticks = []
    tick = span
    for count in range(1, many + 1):
        ticks.append(tick)
        tick += gap(span, min(count, span * span))
    return tuple(ticks)


def fits_late(rule, thing):
    """Whether thing is a memory of a rule that is known to be a late one."""
    if not isinstance(thing, tuple) or len(thing) != 3:
        return False
    age, left, count = thing
    span = rule[2]
    if not is_within(count, 0, span * span):
        return False
    if age is not None and not is_within(age, 0, span):
        return False
    if left is None:
        return True
    return age == span and is_within(left, 0, span)


def look_late(rule, memory, wait, alone):
    """As late_looked, of what is known to fit."""
    mark, span = rule[1], rule[2]
    age, left, count = memory
    if wait < mark or alone:
        return (None, None, count), False
    if age is None:
        return (0, None, count), False
    if age < span or (left is not None and left > 0):
        return memory, False
    if left is None:
        # The first strike of a late time: the count of the one before is taken up again by half.
        count = count // 2 + 1
    else:
        count = min(count + 1, span * span)
    return (span, gap(span, count), count), True


def pass_late(rule, memory):
    """As late_passed, of what is known to fit."""
    age, left, count = memory
    if age is not None:
        age = min(age + 1, rule[2])
    if left is not None:
        left = max(left - 1, 0)
    return (age, left, count)


def _check_late(rule):
    if not is_late(rule):
        raise NoRule("no late rule")


def _check_memory(rule, memory):
    if not is_late_memory(rule, memory):
        raise NoMemory("no memory of this late rule")
