"""Roots, and the gaps between strikes that hang on them."""

from math import isqrt

from waitmark.base.bounds import check_number, is_whole
from waitmark.errors import NoNumber

MOST_SPAN = 99


def root(number):
    """The greatest whole number whose square is no more than number."""
    if not is_whole(number) or number < 0:
        raise NoNumber("not a whole number from 0 on")
    return isqrt(number)


def gap(span, count):
    """The root of span * span // count: the more strikes, the closer they stand."""
    check_number(span, 1, MOST_SPAN)
    check_number(count, 1, span * span)
    return root(span * span // count)
