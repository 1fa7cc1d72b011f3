"""Whole numbers and their bounds, and what is just the same: for all of the program."""

from waitmark.errors import NoNumber

MOST_WAIT = 1000000


def is_whole(thing):
    """Whether thing is an int that is no truth."""
    return isinstance(thing, int) and not isinstance(thing, bool)


def is_within(thing, low, high):
    """Whether thing is a whole number from low to high."""
    return is_whole(thing) and low <= thing <= high


def check_number(thing, low, high):
    """Refuse what is no whole number from low to high."""
    if not is_within(thing, low, high):
        raise NoNumber(f"not a whole number from {low} to {high}")


def check_wait(wait):
    """Refuse what is no wait."""
    check_number(wait, 0, MOST_WAIT)


def is_same(told, thing):
    """Whether thing is just what is told, kinds too: a truth is no number, a list no tuple."""
    if not isinstance(told, tuple):
        return isinstance(thing, bool) == isinstance(told, bool) and thing == told
    if not isinstance(thing, tuple) or len(thing) != len(told):
        return False
    return all([is_same(part, other) for part, other in zip(told, thing)])
