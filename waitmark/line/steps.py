"""A step: one tick of all lanes."""

from waitmark.base.comers import check_comers
from waitmark.base.plain import check_rate
from waitmark.lanes.lanes import check_streams, pass_lane, renew_lane
from waitmark.lanes.turns import Floor, check_standing


def stepped(streams, rate, standing, comers):
    """The standing behind a step, and the step's rows."""
    check_streams(streams)
    check_rate(rate)
    check_standing(streams, standing)
    check_comers(len(streams), comers)
    return step_on(streams, rate, standing, comers)


def step_on(streams, rate, standing, comers):
    """As stepped, of what is known to fit."""
    floor = Floor(streams, standing)
    floor.lanes = [renew_lane(stream, lane) for stream, lane in zip(streams, floor.lanes)]
    for comer in comers:
        floor.let_in(comer)
    floor.serve(rate)
    floor.lanes = [pass_lane(stream, lane) for stream, lane in zip(streams, floor.lanes)]
    return floor.told()
