"""Spans: ticks in which two streams both wait, and how far apart they are by their weights."""

from waitmark.base.bounds import check_number, is_whole
from waitmark.errors import NoNumber
from waitmark.lanes.lanes import MOST_KEPT, check_streams, turn_credit
from waitmark.line.journals import sent_units
from waitmark.line.steps import check_steps, follow


def busy(streams, rate, standing, run):
    """The busy streams of each tick."""
    check_steps(streams, rate, standing, run)
    return tuple([here for here, _ in _ticks(streams, rate, standing, run)])


def apart(streams, rate, standing, run, one, other, span):
    """How far apart two streams are in a span of them."""
    check_steps(streams, rate, standing, run)
    _check_two(streams, one, other)
    leads = _leads(streams, _ticks(streams, rate, standing, run), one, other)
    if not _is_span(leads, span):
        raise NoNumber("no span of these streams")
    return abs(sum(leads[span[0]:span[1] + 1]))


def bound(streams, one, other):
    """How far apart two streams are at most."""
    check_streams(streams)
    _check_two(streams, one, other)
    weight, than = streams[one][0], streams[other][0]
    return turn_credit(streams[one]) * than + MOST_KEPT * (weight + than)


def most_apart(streams, rate, standing, run):
    """The greatest apart of all spans of any two: (apart, one, other, from, to), or None."""
    check_steps(streams, rate, standing, run)
    ticks = _ticks(streams, rate, standing, run)
    found = []
    for other in range(len(streams)):
        for one in range(other):
            for most, begin, end in _all_apart(_leads(streams, ticks, one, other)):
                # The greatest is to come first, of as great ones the least of the rest.
                found.append((-most, one, other, begin, end))
    if len(found) == 0:
        return None
    least = min(found)
    return (-least[0], *least[1:])


def _ticks(streams, rate, standing, run):
    """The busy streams of each tick, and the units that each stream sends in it."""
    pairs = follow(streams, rate, standing, run)
    return [(tuple(sorted(behind[2])), sent_units(len(streams), rows)) for behind, rows in pairs]


def _leads(streams, ticks, one, other):
    """By how much one gets ahead of the other in each tick, by their weights; None where not both are busy."""
    weight, than = streams[one][0], streams[other][0]
    leads = []
    for here, sent in ticks:
        if one in here and other in here:
            leads.append(sent[one] * than - sent[other] * weight)
        else:
            leads.append(None)
    return leads


def _is_span(leads, thing):
    if not isinstance(thing, tuple) or len(thing) != 2 or not all([is_whole(tick) for tick in thing]):
        return False
    begin, end = thing
    return 0 <= begin <= end < len(leads) and None not in leads[begin:end + 1]


def _all_apart(leads):
    """For each tick that may end a span, the greatest apart of these spans, and the span: the first of the greatest."""
    found = []
    total, least, most = 0, None, None
    for tick, lead in enumerate(leads):
        if lead is None:
            least, most = None, None
            continue
        if least is None or total < least[0]:
            least = (total, tick)
        if most is None or total > most[0]:
            most = (total, tick)
        total += lead
        found.append((total - least[0], least[1], tick))
        found.append((most[0] - total, most[1], tick))
    return found


def _check_two(streams, one, other):
    check_number(one, 0, len(streams) - 1)
    check_number(other, 0, len(streams) - 1)
    if one == other:
        raise NoNumber("one stream twice")
