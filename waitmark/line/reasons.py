"""The reasons of strikes: what a rule's memory was as it struck."""

from waitmark.base.bounds import check_number, is_same
from waitmark.base.comers import check_run
from waitmark.base.plain import check_rate
from waitmark.errors import NoNumber
from waitmark.lanes.lanes import check_streams, come_to, renew_lane
from waitmark.lanes.turns import first_standing
from waitmark.line.journals import is_strike
from waitmark.line.steps import follow


def reason_of(streams, rate, run, tick, place):
    """The reason of the strike at this place of this tick, of a run from the first standing."""
    check_streams(streams)
    check_rate(rate)
    check_run(len(streams), run)
    check_number(tick, 0, len(run) - 1)
    pairs = follow(streams, rate, first_standing(streams), run[:tick + 1])
    rows = pairs[tick][1]
    check_number(place, 0, len(rows) - 1)
    if not is_strike(streams, rows[place]):
        raise NoNumber("no strike at this place of this tick")
    number = rows[place][1]
    standings = [first_standing(streams)] + [standing for standing, _ in pairs]
    lanes = [standing[3][number] for standing in standings]
    if streams[number][1][0] == "share":
        return _share_reason(streams[number], lanes[tick], [comer for comer in run[tick][:place] if comer[0] == number])
    return _late_reason([lane[2] for lane in lanes])


def shows_reason(streams, rate, run, tick, place, thing):
    """Whether thing is just the reason of the strike."""
    return is_same(reason_of(streams, rate, run, tick, place), thing)


def _share_reason(stream, lane, comers):
    """By the lane at the tick's begin and those that came to it in this tick ahead of the one that was struck."""
    lane = renew_lane(stream, lane)
    for _, size, can in comers:
        lane, _ = come_to(stream, lane, size, can)
    return ("share", lane[2][1], lane[2][3])


def _late_reason(memories):
    """By the memories at the begin of each tick, and behind the last one, in which the strike is."""
    tick = len(memories) - 2
    # Waits never rise towards the end of a lane: an age that is None once stays so till the tick is over.
    since = max([at for at, memory in enumerate(memories[:tick]) if memory[0] is None])
    # In one tick at most one is struck, so the count behind the tick is that behind the strike.
    return ("late", since, memories[-1][2])
