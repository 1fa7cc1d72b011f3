"""A step: one tick of all lanes; and the steps of a run."""

from waitmark.base.comers import check_comers, check_run
from waitmark.lanes.lanes import pass_lane, renew_lane
from waitmark.lanes.turns import Floor, check_line


def stepped(streams, rate, standing, comers):
    """The standing behind a step, and the step's rows."""
    check_line(streams, rate, standing)
    check_comers(len(streams), comers)
    return step_on(streams, rate, standing, comers)


def step_on(streams, rate, standing, comers):
    """As stepped, of what is known to fit."""
    floor = Floor(streams, standing)
    floor.lanes = [renew_lane(stream, lane) for stream, lane in zip(streams, floor.lanes)]
    for comer in comers:
        floor.let_in(comer)
    floor.serve(rate)
    floor.lanes = [pass_lane(stream, lane) for stream, lane in zip(streams, floor.lanes)]
    return floor.told()


def follow(streams, rate, standing, run):
    """The pairs (standing behind it, rows) of each tick of a run, of what is known to fit."""
    pairs = []
    for comers in run:
        standing, rows = step_on(streams, rate, standing, comers)
        pairs.append((standing, rows))
    return pairs


def check_steps(streams, rate, standing, run):
    """Refuse what is no line, or no run of its streams."""
    check_line(streams, rate, standing)
    check_run(len(streams), run)
