"""Standings of streams, and how their lanes are served by turns and weights."""

from waitmark.base.bounds import is_whole, is_within
from waitmark.base.plain import check_rate
from waitmark.errors import NoStanding
from waitmark.lanes.lanes import MOST_KEPT, check_streams, come_to, empty_lane, fits_lane, go_out, turn_credit

# A serving ends at a head whose size is above the budget: what is left is less than the greatest size.
MOST_BUDGET = 8


class Floor:
    """A standing taken apart, so that things can come and be served; its rows are those told so far."""

    def __init__(self, streams, standing):
        self.streams = streams
        self.budget, self.begun, ring, lanes = standing
        self.ring = list(ring)
        self.lanes = list(lanes)
        self.rows = []

    def told(self):
        """The standing now, and the rows."""
        return (self.budget, self.begun, tuple(self.ring), tuple(self.lanes)), tuple(self.rows)

    def let_in(self, comer):
        """A comer comes to its lane."""
        number, size, can = comer
        lane, word = come_to(self.streams[number], self.lanes[number], size, can)
        if len(self.lanes[number][1]) == 0 and len(lane[1]) > 0:
            self.ring.append(number)
        self.lanes[number] = lane
        self.rows.append((word, number, size, 0))

    def serve(self, rate):
        """A whole serving."""
        if len(self.ring) > 0:
            self.budget += rate
        ended = False
        while len(self.ring) > 0 and not ended:
            self.begin_turn()
            number = self.ring[0]
            credit, pieces, _ = self.lanes[number]
            size = pieces[0][0]
            if size > credit:
                self.ring = [*self.ring[1:], number]
                self.begun = False
            elif size > self.budget:
                ended = True
            else:
                self.let_out(number)
        if len(self.ring) == 0:
            self.budget = 0

    def begin_turn(self):
        """The first one's turn begins, if it hasn't yet."""
        if self.begun:
            return
        number = self.ring[0]
        credit, pieces, memory = self.lanes[number]
        self.lanes[number] = (credit + turn_credit(self.streams[number]), pieces, memory)
        self.begun = True

    def let_out(self, number):
        """The head of the first one goes out."""
        size, _, _, wait = self.lanes[number][1][0]
        lane, word = go_out(self.streams[number], self.lanes[number])
        credit, pieces, memory = lane
        cost = 0 if word == "drop" else size
        self.budget -= cost
        if len(pieces) > 0:
            lane = (credit - cost, pieces, memory)
        else:
            # Who waits for nothing keeps no credit: the lane's is 0 already.
            self.ring = self.ring[1:]
            self.begun = False
        self.lanes[number] = lane
        self.rows.append((word, number, size, wait))


def is_standing(streams, thing):
    """Whether thing is a standing of these streams."""
    check_streams(streams)
    if not isinstance(thing, tuple) or len(thing) != 4:
        return False
    budget, begun, ring, lanes = thing
    if not is_within(budget, 0, MOST_BUDGET) or not isinstance(begun, bool):
        return False
    if not _fit_lanes(streams, lanes) or not _fits_ring(ring, lanes):
        return False
    if len(ring) == 0:
        return budget == 0 and not begun
    return all([lane[0] <= MOST_KEPT or (begun and number == ring[0]) for number, lane in enumerate(lanes)])


def first_standing(streams):
    """The standing at first: all lanes are empty."""
    check_streams(streams)
    return (0, False, (), tuple([empty_lane(stream) for stream in streams]))


def served(streams, rate, standing):
    """The standing behind a serving alone, and its rows."""
    check_line(streams, rate, standing)
    floor = Floor(streams, standing)
    floor.serve(rate)
    return floor.told()


def check_line(streams, rate, standing):
    """Refuse what are no streams, no rate, or no standing of these streams."""
    check_streams(streams)
    check_rate(rate)
    check_standing(streams, standing)


def check_standing(streams, standing):
    """Refuse what are no streams, or no standing of these streams."""
    if not is_standing(streams, standing):
        raise NoStanding("no standing of these streams")


def _fit_lanes(streams, lanes):
    if not isinstance(lanes, tuple) or len(lanes) != len(streams):
        return False
    return all([fits_lane(stream, lane) for stream, lane in zip(streams, lanes)])


def _fits_ring(ring, lanes):
    if not isinstance(ring, tuple) or not all([is_whole(number) for number in ring]):
        return False
    return sorted(ring) == [number for number, lane in enumerate(lanes) if len(lane[1]) > 0]
