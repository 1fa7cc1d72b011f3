"""Loads, buckets that let them in, and how long a stream waits at most whose comers are let in."""

from waitmark.base.bounds import check_number, is_within
from waitmark.base.plain import check_rate
from waitmark.errors import NoBucket, NoLoad
from waitmark.lanes.lanes import MOST_KEPT, check_streams, turn_credit

LONGEST_LOAD = 400
MOST_UNITS = 999
MOST_DEPTH = 999
MOST_GAIN = 99


def over(load, bucket):
    """(a, b): the least b up to which more come than the bucket lets in, of its a the greatest; or None."""
    _check_load(load)
    _check_bucket(bucket)
    return _first_above(load, bucket[0], bucket[1])


def least_depth(load, gain):
    """(depth, span): the least depth that lets the load in, and the first span in which just so many come."""
    _check_load(load)
    check_number(gain, 0, MOST_GAIN)
    most, depth = 0, 1
    for come in load:
        # The most that come up to a tick, above the gain: with those ahead of it, or by itself alone.
        most = come + max(most - gain, 0)
        depth = max(depth, most)
    # In no span more come than this depth lets in: above one less come just so many.
    return (depth, _first_above(load, depth - 1, gain))


def longest(streams, stream, rate, bucket):
    """(wait, m): how long a let-in stream waits at most, and where that is reached; or None of no such bound."""
    check_streams(streams)
    check_number(stream, 0, len(streams) - 1)
    check_rate(rate)
    _check_bucket(bucket)
    depth, gain = bucket
    if gain * sum([each[0] for each in streams]) > rate * streams[stream][0]:
        return None
    credit = turn_credit(streams[stream])
    others = [turn_credit(each) for number, each in enumerate(streams) if number != stream]
    waits = []
    for ticks in range(credit):
        waits.append(_units_ahead(depth + gain * ticks, credit, others) // rate - ticks)
    return (max(waits), waits.index(max(waits)))


def _units_ahead(own, credit, others):
    """How many units go out at most till so many of the stream's own have: these, and what the others send."""
    turns = (own + MOST_KEPT) // credit + 1
    return MOST_KEPT + own + sum([each * turns + MOST_KEPT for each in others])


def _first_above(load, depth, gain):
    """The span (a, b) with the least b, of its a the greatest, in which more come than such a bucket lets in."""
    for end in range(len(load)):
        above = gain - depth
        for begin in range(end, -1, -1):
            above += load[begin] - gain
            if above > 0:
                return (begin, end)
    return None


def _check_load(load):
    if not isinstance(load, tuple) or len(load) > LONGEST_LOAD:
        raise NoLoad(f"not a tuple of at most {LONGEST_LOAD} numbers")
    if not all([is_within(come, 0, MOST_UNITS) for come in load]):
        raise NoLoad(f"not all of them from 0 to {MOST_UNITS}")


def _check_bucket(bucket):
    if not isinstance(bucket, tuple) or len(bucket) != 2:
        raise NoBucket("no bucket")
    if not is_within(bucket[0], 1, MOST_DEPTH) or not is_within(bucket[1], 0, MOST_GAIN):
        raise NoBucket(f"no depth from 1 to {MOST_DEPTH}, or no gain from 0 to {MOST_GAIN}")
