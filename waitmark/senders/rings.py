"""Rings: the ticks of a world that come again and again, and what holds from them on for ever."""

from waitmark.base.bounds import check_number, is_same
from waitmark.errors import TooLong
from waitmark.line.journals import SENT, sent_units
from waitmark.senders.senders import check_world, first_state, tick_on

MOST_TICKS = 400
MOST_MARK = 99


def ring_of(world):
    """(lead, ring): the least tick whose state comes again, and how many ticks later it first does."""
    lead, journal = _walked_round(world)
    return (lead, len(journal) - lead)


def shows_ring(world, thing):
    """Whether thing is just the lead and the ring."""
    return is_same(ring_of(world), thing)


def falls(world, mark):
    """("falls", tick) or ("never", tick): from when on nothing that waited so long is sent, or when it is again."""
    check_world(world)
    check_number(mark, 1, MOST_MARK)
    lead, journal = _walked_round(world)
    late = [tick for tick, rows in enumerate(journal) if _sends_late(rows, mark)]
    again = [tick for tick in late if tick >= lead]
    if len(again) > 0:
        return ("never", again[0])
    return ("falls", late[-1] + 1 if len(late) > 0 else 0)


def shows_falls(world, mark, thing):
    """Whether thing is just what falls tells."""
    return is_same(falls(world, mark), thing)


def ring_units(world):
    """The units that each stream sends in the ring."""
    lead, journal = _walked_round(world)
    sent = [sent_units(len(world[0]), rows) for rows in journal[lead:]]
    return tuple([sum(units) for units in zip(*sent)])


def _walked_round(world):
    """The lead, and the rows of each tick till the ring has been gone round once."""
    state = first_state(world)
    ticks = {state: 0}
    journal = []
    for tick in range(1, MOST_TICKS + 1):
        state, _, rows = tick_on(world, state)
        journal.append(rows)
        if state in ticks:
            return ticks[state], journal
        ticks[state] = tick
    raise TooLong(f"no state comes again in {MOST_TICKS} ticks")


def _sends_late(rows, mark):
    return any([word in SENT and wait >= mark for word, _, _, wait in rows])
