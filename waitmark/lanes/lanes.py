"""Streams and their lanes: what comes to a lane, goes out of it, and waits in it."""

from waitmark.base.bounds import MOST_WAIT, check_number, is_within
from waitmark.base.comers import MOST_SIZE, MOST_STREAMS
from waitmark.errors import NoLane, NoStream, NoStreams
from waitmark.lanes.rules import come_by, first_memory, fits_memory, is_rule, look_at, pass_by, renew_by

MOST_WEIGHT = 9
MOST_LIMIT = 99
# A turn ends at a head whose size is above the credit: what is kept is less than the greatest size.
MOST_KEPT = 8


def is_stream(thing):
    """Whether thing is a stream."""
    if not isinstance(thing, tuple) or len(thing) != 3:
        return False
    weight, rule, limit = thing
    return is_within(weight, 1, MOST_WEIGHT) and is_rule(rule) and is_within(limit, 1, MOST_LIMIT)


def is_lane(stream, thing):
    """Whether thing is a lane of this stream."""
    _check_stream(stream)
    return fits_lane(stream, thing)


def empty_lane(stream):
    """The lane at first."""
    _check_stream(stream)
    return (0, (), first_memory(stream[1]))


def put_in(stream, lane, size, *, can=True):
    """The lane behind a comer of this size, and the word of it."""
    _check_lane(stream, lane)
    check_number(size, 1, MOST_SIZE)
    return come_to(stream, lane, size, can)


def head_out(stream, lane):
    """The lane behind its head, and by which word the head goes out."""
    _check_lane(stream, lane)
    if len(lane[1]) == 0:
        raise NoLane("no head in an empty lane")
    return go_out(stream, lane)


def lane_renewed(stream, lane):
    """The lane behind a tick's begin."""
    _check_lane(stream, lane)
    return renew_lane(stream, lane)


def lane_passed(stream, lane):
    """The lane behind a tick that passes."""
    _check_lane(stream, lane)
    return pass_lane(stream, lane)


def are_streams(thing):
    """Whether thing is a tuple of one to eight streams."""
    if not isinstance(thing, tuple) or not 1 <= len(thing) <= MOST_STREAMS:
        return False
    return all([is_stream(stream) for stream in thing])


def check_streams(streams):
    """Refuse what is no tuple of one to eight streams."""
    if not are_streams(streams):
        raise NoStreams(f"not a tuple of 1 to {MOST_STREAMS} streams")


def turn_credit(stream):
    """By how much the credit grows as a turn begins."""
    return MOST_SIZE * stream[0]


def lane_units(lane):
    """The units that wait in a lane."""
    return sum([piece[0] for piece in lane[1]])


def fits_lane(stream, thing):
    """As is_lane, of what is known to be a stream."""
    if not isinstance(thing, tuple) or len(thing) != 3:
        return False
    credit, pieces, memory = thing
    if not is_within(credit, 0, turn_credit(stream) + MOST_KEPT) or not fits_memory(stream[1], memory):
        return False
    if not isinstance(pieces, tuple) or len(pieces) > stream[2]:
        return False
    if len(pieces) == 0:
        return credit == 0
    if not all([_fits_piece(piece) for piece in pieces]):
        return False
    waits = [piece[3] for piece in pieces]
    return waits == sorted(waits, reverse=True)


def come_to(stream, lane, size, can):
    """As put_in, of what is known to fit."""
    credit, pieces, memory = lane
    if len(pieces) == stream[2]:
        return lane, "full"
    memory, struck = come_by(stream[1], memory)
    if struck and not can:
        return (credit, pieces, memory), "drop"
    word = "mark" if struck else "come"
    return (credit, (*pieces, (size, can, struck, 0)), memory), word


def go_out(stream, lane):
    """As head_out, of what is known to fit and isn't empty."""
    credit, pieces, memory = lane
    _, can, marked, wait = pieces[0]
    behind = pieces[1:]
    alone = len(behind) == 0
    memory, struck = look_at(stream[1], memory, wait, alone)
    if alone:
        credit = 0
    if struck and not can:
        word = "drop"
    elif struck or marked:
        word = "bell"
    else:
        word = "send"
    return (credit, behind, memory), word


def renew_lane(stream, lane):
    """As lane_renewed, of what is known to fit."""
    credit, pieces, memory = lane
    wait = pieces[0][3] if len(pieces) > 0 else 0
    return (credit, pieces, renew_by(stream[1], memory, wait))


def pass_lane(stream, lane):
    """As lane_passed, of what is known to fit."""
    credit, pieces, memory = lane
    older = tuple([(size, can, marked, min(wait + 1, MOST_WAIT)) for size, can, marked, wait in pieces])
    return (credit, older, pass_by(stream[1], memory))


def _fits_piece(thing):
    if not isinstance(thing, tuple) or len(thing) != 4:
        return False
    size, can, marked, wait = thing
    if not isinstance(can, bool) or not isinstance(marked, bool) or (marked and not can):
        return False
    return is_within(size, 1, MOST_SIZE) and is_within(wait, 0, MOST_WAIT)


def _check_stream(stream):
    if not is_stream(stream):
        raise NoStream("no stream")


def _check_lane(stream, lane):
    if not is_lane(stream, lane):
        raise NoLane("no lane of this stream")
