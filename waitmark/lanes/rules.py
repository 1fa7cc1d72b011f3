"""Rules of any kind: late ones, share ones, and the one that does nothing."""

from waitmark.base.bounds import check_wait
from waitmark.errors import NoMemory, NoRule
from waitmark.rules.late import fits_late, is_late, late_first, look_late, pass_late
from waitmark.rules.share import come_share, fits_share, is_share, pass_share, renew_share, share_first


def is_rule(thing):
    """Whether thing is a rule of any kind."""
    return is_late(thing) or is_share(thing) or thing == ("none",)


def is_memory(rule, thing):
    """Whether thing is a memory of this rule."""
    check_rule(rule)
    return fits_memory(rule, thing)


def first_memory(rule):
    """The rule's memory at first."""
    check_rule(rule)
    if rule[0] == "late":
        return late_first(rule)
    if rule[0] == "share":
        return share_first(rule)
    return ()


def looked(rule, memory, wait, *, alone=False):
    """The memory behind a look at a head, and whether the head is struck."""
    _check_memory(rule, memory)
    check_wait(wait)
    return look_at(rule, memory, wait, alone)


def come_in(rule, memory):
    """The memory as one has come in, and whether that one is struck."""
    _check_memory(rule, memory)
    return come_by(rule, memory)


def renewed(rule, memory, wait):
    """The memory behind a tick's begin, by the head's wait."""
    _check_memory(rule, memory)
    check_wait(wait)
    return renew_by(rule, memory, wait)


def passed(rule, memory):
    """The memory behind a tick that passes."""
    _check_memory(rule, memory)
    return pass_by(rule, memory)


def check_rule(rule):
    """Refuse what is no rule."""
    if not is_rule(rule):
        raise NoRule("no rule")


def fits_memory(rule, thing):
    """As is_memory, of what is known to be a rule."""
    if rule[0] == "late":
        return fits_late(rule, thing)
    if rule[0] == "share":
        return fits_share(rule, thing)
    return thing == ()


def look_at(rule, memory, wait, alone):
    """As looked, of what is known to fit."""
    if rule[0] == "late":
        return look_late(rule, memory, wait, alone)
    return memory, False


def come_by(rule, memory):
    """As come_in, of what is known to fit."""
    if rule[0] == "share":
        return come_share(memory)
    return memory, False


def renew_by(rule, memory, wait):
    """As renewed, of what is known to fit."""
    if rule[0] == "share":
        return renew_share(rule, memory, wait)
    return memory


def pass_by(rule, memory):
    """As passed, of what is known to fit."""
    if rule[0] == "late":
        return pass_late(rule, memory)
    if rule[0] == "share":
        return pass_share(rule, memory)
    return memory


def _check_memory(rule, memory):
    if not is_memory(rule, memory):
        raise NoMemory("no memory of this rule")
