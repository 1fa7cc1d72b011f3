"""Comers and runs: what comes to a line, tick by tick."""

from waitmark.base.bounds import check_number, is_within
from waitmark.errors import NoComers, NoRun, NoStreams

MOST_SIZE = 9
MOST_STREAMS = 8
MOST_COMERS = 64
LONGEST_RUN = 400


def are_comers(many, thing):
    """Whether thing is comers of so many streams."""
    check_many(many)
    return _fit_comers(many, thing)


def is_run(many, thing):
    """Whether thing is a run of so many streams."""
    check_many(many)
    if not isinstance(thing, tuple) or len(thing) > LONGEST_RUN:
        return False
    return all([_fit_comers(many, comers) for comers in thing])


def units(comers, *, stream=None):
    """The sizes together of all comers, or of those of one stream."""
    check_comers(MOST_STREAMS, comers)
    if stream is None:
        return sum([comer[1] for comer in comers])
    check_number(stream, 0, MOST_STREAMS - 1)
    return sum([comer[1] for comer in comers if comer[0] == stream])


def check_many(many):
    """Refuse what is no number of streams."""
    if not is_within(many, 1, MOST_STREAMS):
        raise NoStreams(f"not a number of streams from 1 to {MOST_STREAMS}")


def check_comers(many, comers):
    """Refuse what is no comers of so many streams."""
    if not are_comers(many, comers):
        raise NoComers(f"no comers of {many} streams")


def check_run(many, run):
    """Refuse what is no run of so many streams."""
    if not is_run(many, run):
        raise NoRun(0)


def _fit_comers(many, thing):
    if not isinstance(thing, tuple) or len(thing) > MOST_COMERS:
        return False
    return all([_fits_comer(many, comer) for comer in thing])


def _fits_comer(many, thing):
    if not isinstance(thing, tuple) or len(thing) != 3:
        return False
    stream, size, can = thing
    return is_within(stream, 0, many - 1) and is_within(size, 1, MOST_SIZE) and isinstance(can, bool)
