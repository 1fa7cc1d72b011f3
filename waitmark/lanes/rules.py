"""Rules of any kind: late ones, share ones, and the one that does nothing."""

from waitmark.base.bounds import check_wait
from waitmark.errors import NoMemory, NoRule
from waitmark.rules.late import fits_late, is_late, late_first, look_late, pass_late
from waitmark.rules.share import come_share, fits_share, is_share, pass_share, renew_share, share_first


def is_rule(thing):
    """Whether thing is a rule of any kind."""
    return is_late(thing) or is_share(thing) or thing == ("none",)


def is_memory(rule, thing):
    """Whether thing is a memory of this rule."""
    _check_rule(rule)
    if is_late(rule):
        return fits_late(rule, thing)
    if is_share(rule):
        return fits_share(rule, thing)
    return thing == ()


def first_memory(rule):
    """The rule's memory at first."""
    _check_rule(rule)
    if is_late(rule):
        return late_first(rule)
    if is_share(rule):
        return share_first(rule)
    return ()


def looked(rule, memory, wait, *, alone=False):
    """The memory behind a look at a head, and whether the head is struck."""
    _check_memory(rule, memory)
    check_wait(wait)
    if is_late(rule):
        return look_late(rule, memory, wait, alone)
    return memory, False


def come_in(rule, memory):
    """The memory as one has come in, and whether that one is struck."""
    _check_memory(rule, memory)
    if is_share(rule):
        return come_share(memory)
    return memory, False


def renewed(rule, memory, wait):
    """The memory behind a tick's begin, by the head's wait."""
    _check_memory(rule, memory)
    check_wait(wait)
    if is_share(rule):
        return renew_share(rule, memory, wait)
    return memory


def passed(rule, memory):
    """The memory behind a tick that passes."""
    _check_memory(rule, memory)
    if is_late(rule):
        return pass_late(rule, memory)
    if is_share(rule):
        return pass_share(rule, memory)
    return memory


def _check_rule(rule):
    if not is_rule(rule):
        raise NoRule("no rule")


def _check_memory(rule, memory):
    if not is_memory(rule, memory):
        raise NoMemory("no memory of this rule")
