"""Journals: the rows of each step, and what they tell."""

from waitmark.base.bounds import check_number, is_same
from waitmark.base.comers import MOST_STREAMS
from waitmark.lanes.lanes import check_streams, lane_units
from waitmark.lanes.turns import check_standing
from waitmark.line.steps import check_steps, follow

SENT = ("send", "bell")


def journal_of(streams, rate, standing, run):
    """The rows of each tick of a run, from this standing."""
    check_steps(streams, rate, standing, run)
    return tuple([rows for _, rows in follow(streams, rate, standing, run)])


def shows_journal(streams, rate, standing, run, thing):
    """Whether thing is just the journal of the run."""
    return is_same(journal_of(streams, rate, standing, run), thing)


def accounts(streams, standing, journal):
    """The account of each stream, by a standing and a journal from it."""
    check_standing(streams, standing)
    return tuple([_account(number, lane_units(lane), journal) for number, lane in enumerate(standing[3])])


def strikes(streams, journal):
    """The strikes (tick, place, stream) of a journal from the first standing."""
    check_streams(streams)
    found = []
    for tick, rows in enumerate(journal):
        for place, row in enumerate(rows):
            if is_strike(streams, row):
                found.append((tick, place, row[1]))
    return tuple(found)


def waits(journal, stream):
    """The waits of what a stream sent, in order."""
    check_number(stream, 0, MOST_STREAMS - 1)
    return tuple([wait for rows in journal for word, number, _, wait in rows if number == stream and word in SENT])


def is_strike(streams, row):
    """Whether the row, of a journal from the first standing, is a strike."""
    word, number, _, _ = row
    if word == "bell":
        # A share rule strikes what comes; the bell that rings for it as it goes out is no strike of its own.
        return streams[number][1][0] == "late"
    return word in ("drop", "mark")


def sent_units(many, rows):
    """The units that each of so many streams sends in a tick with these rows."""
    sent = [0] * many
    for word, number, size, _ in rows:
        if word in SENT:
            sent[number] += size
    return sent


def _account(stream, ahead, journal):
    asked, barred, dropped, sent = 0, 0, 0, 0
    for word, number, size, wait in [row for rows in journal for row in rows]:
        if number != stream:
            continue
        if word in SENT:
            sent += size
        elif wait > 0:
            # Of what isn't sent only a dropped head has waited: none is late at a wait of 0.
            dropped += size
        else:
            asked += size
            if word in ("full", "drop"):
                barred += size
    return (ahead, asked, barred, dropped, sent, ahead + asked - barred - dropped - sent)
