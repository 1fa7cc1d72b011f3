"""Steps: whole ticks of a line, from any standing."""

import random
import unittest

from waitmark.base.plain import plain_waits
from waitmark.errors import NoComers, NoRate, NoStanding, NoStreams
from waitmark.lanes.lanes import head_out, lane_passed, lane_renewed, put_in
from waitmark.lanes.turns import first_standing, is_standing, served
from waitmark.line.steps import stepped
from tests.things import MOST_WAIT, Case, Model, some_comers, some_standing, some_streams, spoilt, things, within

NONE = ("none",)
LATE = ("late", 1, 2)
SHARE = ("share", 1, 1, 300, 0)
PLAIN = (1, NONE, 9)
TWO = (PLAIN, (2, LATE, 3))


def lane(credit, pieces, memory=()):
    return (credit, pieces, memory)


def hand_stepped(streams, rate, standing, comers):
    """A step put together of what lanes and turns tell."""
    budget, begun, ring, lanes = standing
    lanes = [lane_renewed(stream, part) for stream, part in zip(streams, lanes)]
    rows = []
    for number, size, can in comers:
        lanes[number], word = put_in(streams[number], lanes[number], size, can=can)
        rows.append((word, number, size, 0))
        if lanes[number][1] and number not in ring:
            ring += (number,)
    (budget, begun, ring, lanes), more = served(streams, rate, (budget, begun, ring, tuple(lanes)))
    lanes = tuple(lane_passed(stream, part) for stream, part in zip(streams, lanes))
    return (budget, begun, ring, lanes), tuple(rows) + more


class TestSteps(Case):

    def test_where_nothing_comes(self):
        for streams in ((PLAIN,), TWO, TWO * 4):
            for rate in (1, 99):
                self.tells((first_standing(streams), ()), stepped, streams, rate, first_standing(streams), ())

    def test_rows_of_comers_then_of_heads(self):
        comers = ((1, 3, False), (0, 9, True), (1, 4, True))
        due = (("come", 1, 3, 0), ("come", 0, 9, 0), ("come", 1, 4, 0), ("send", 1, 3, 0), ("send", 1, 4, 0))
        standing = (2, True, (0,), (lane(9, ((9, True, False, 1),)), lane(0, (), (None, None, 0))))
        self.tells((standing, due), stepped, TWO, 9, first_standing(TWO), comers)

    def test_a_stream_whose_lane_is_not_empty_any_more_goes_to_the_rings_end(self):
        streams = (PLAIN,) * 4
        standing = first_standing(streams)
        comers = ((2, 9, False), (0, 9, False), (2, 9, False), (3, 9, False), (0, 9, False), (1, 9, False))
        behind, rows = self.ask(stepped, streams, 1, standing, comers)
        self.same(behind[2], (2, 0, 3, 1))
        self.same(rows, tuple(("come",) + comer[:2] + (0,) for comer in comers))
        again, _ = self.ask(stepped, streams, 1, behind, ((1, 9, False), (3, 9, False)))
        self.same(again[2], (2, 0, 3, 1))

    def test_a_dropped_comer_brings_nobody_into_the_ring(self):
        streams = ((1, ("share", 1, 2, 0, 0), 9), PLAIN)
        standing = (0, False, (), (lane(0, (), (1, 1000, 0, 0)), lane(0, ())))
        comers = ((0, 9, False), (1, 9, False), (0, 9, True))
        behind, rows = self.ask(stepped, streams, 1, standing, comers)
        self.same(behind[2], (1, 0))
        self.same(rows, (("drop", 0, 9, 0), ("come", 1, 9, 0), ("mark", 0, 9, 0)))

    def test_share_rules_are_renewed_ahead_of_the_comers(self):
        streams = ((1, SHARE, 9),)
        standing = (0, False, (0,), (lane(0, ((9, False, False, 3),), (0, 0, 0, 400)),))
        behind, rows = self.ask(stepped, streams, 1, standing, ((0, 9, True), (0, 9, False)))
        self.same(rows, (("mark", 0, 9, 0), ("come", 0, 9, 0)))
        pieces = ((9, False, False, 4), (9, True, True, 1), (9, False, False, 1))
        self.same(behind, (1, True, (0,), (lane(9, pieces, (0, 600, 3, 600)),)))

    def test_an_empty_lane_is_renewed_by_nought_though_something_comes(self):
        streams = ((1, ("share", 1, 1, 300, 300), 9),)
        standing = (0, False, (), (lane(0, (), (0, 999, 1, 0)),))
        due = ((0, False, (), (lane(0, (), (0, 399, 0, 399)),)), (("come", 0, 9, 0), ("send", 0, 9, 0)))
        self.tells(due, stepped, streams, 9, standing, ((0, 9, True),))

    def test_what_was_full_at_the_comers_is_full(self):
        streams = ((1, NONE, 1),)
        standing = (0, False, (0,), (lane(0, ((1, False, False, MOST_WAIT),)),))
        due = ((0, False, (), (lane(0, ()),)), (("full", 0, 9, 0), ("send", 0, 1, MOST_WAIT)))
        self.tells(due, stepped, streams, 99, standing, ((0, 9, False),))

    def test_late_heads_from_tick_to_tick(self):
        streams = ((1, LATE, 99),)
        standing = first_standing(streams)
        told = []
        for _ in range(6):
            standing, rows = stepped(streams, 9, standing, ((0, 9, False), (0, 9, False)))
            told.append([row for row in rows if row[0] not in ("come", "send")])
        self.same(told, [[], [], [], [("drop", 0, 9, 2)], [], [("drop", 0, 9, 2)]])

    def test_waits_and_memories_pass(self):
        streams = (PLAIN, (1, LATE, 9))
        pieces = ((9, True, True, MOST_WAIT), (9, False, False, MOST_WAIT - 1))
        older = ((9, True, True, MOST_WAIT), (9, False, False, MOST_WAIT))
        standing = (0, False, (0,), (lane(0, pieces), lane(0, (), (1, None, 3))))
        due = ((1, True, (0,), (lane(9, older), lane(0, (), (2, None, 3)))), ())
        self.tells(due, stepped, streams, 1, standing, ())

    def test_by_chance_like_the_model_from_the_first_standing(self):
        chance = random.Random(37)
        for turn in range(60):
            streams = some_streams(chance, kind=(None, "late", "share")[turn % 3])
            rate = chance.choice((1, 5, 9, 20, chance.randint(1, 99)))
            model, standing = Model(streams), first_standing(streams)
            for _ in range(30):
                comers = some_comers(chance, len(streams), most=chance.choice((1, 4, 12)))
                rows = model.step(rate, comers)
                self.tells((model.standing(), rows), stepped, streams, rate, standing, comers)
                standing = model.standing()
                self.assertTrue(is_standing(streams, standing))

    def test_by_chance_like_the_model_and_its_parts_from_any_standing(self):
        chance = random.Random(41)
        for _ in range(250):
            streams = some_streams(chance)
            standing = some_standing(chance, streams)
            rate = chance.randint(1, 99)
            comers = some_comers(chance, len(streams), most=64)
            due = hand_stepped(streams, rate, standing, comers)
            model = Model(streams, standing)
            rows = model.step(rate, comers)
            self.same((model.standing(), rows), due)
            self.tells(due, stepped, streams, rate, standing, comers)

    def test_one_stream_of_no_rule_is_the_plain_line(self):
        chance = random.Random(43)
        for _ in range(40):
            streams = ((chance.randint(1, 9), NONE, 99),)
            rate = chance.randint(1, 20)
            run = tuple(some_comers(chance, 1, most=3) for _ in range(30))
            standing, told = first_standing(streams), []
            for comers in run:
                standing, rows = stepped(streams, rate, standing, comers)
                told.append(tuple(row[3] for row in rows if row[0] == "send"))
            self.same(tuple(told), plain_waits(run, rate=rate))

    def test_heads_that_go_out_alone_are_head_out(self):
        alone = lane(5, ((1, True, False, 9),), (2, None, 4))
        self.tells(((0, (), (None, None, 4)), "send"), head_out, (1, LATE, 9), alone)
        standing = (0, True, (0,), (alone,))
        due = ((0, False, (), (lane(0, (), (None, None, 4)),)), (("send", 0, 1, 9),))
        self.tells(due, stepped, ((1, LATE, 9),), 1, standing, ())


class TestRefusals(Case):

    def test_no_streams_go_first(self):
        for streams in things() + [(PLAIN,) * 9, [PLAIN], PLAIN, (PLAIN, None), (PLAIN, (1, NONE, 0))]:
            for rate in (9, 0):
                for standing in (first_standing((PLAIN,)), None):
                    for comers in ((), None):
                        self.refuses(NoStreams, stepped, streams, rate, standing, comers)

    def test_no_rate_goes_next(self):
        for rate in things():
            if not within(rate, 1, 99):
                for standing in (first_standing(TWO), None):
                    for comers in ((), None):
                        self.refuses(NoRate, stepped, TWO, rate, standing, comers)

    def test_no_standing_goes_next(self):
        for standing in things() + list(spoilt(first_standing(TWO))) + [first_standing((PLAIN,))]:
            if is_standing(TWO, standing):
                continue
            for comers in ((), None, ((2, 1, True),)):
                self.refuses(NoStanding, stepped, TWO, 9, standing, comers)

    def test_no_comers_of_so_many_streams(self):
        for comers in things() + [((2, 1, True),), ((0, 10, True),), ((0, 1, 1),), ((0, 1, True),) * 65, [(0, 1, True)],
                                  ((True, 1, True),), ((0, 1, True), None)]:
            if comers != () and comers != ((0, 1, True),) or type(comers) is not tuple:
                self.refuses(NoComers, stepped, TWO, 9, first_standing(TWO), comers)
        self.refuses(NoComers, stepped, (PLAIN,), 9, first_standing((PLAIN,)), ((1, 1, True),))
        told, rows = self.ask(stepped, TWO, 9, first_standing(TWO), ((0, 1, True),) * 64)
        self.same([row[0] for row in rows], ["come"] * 9 + ["full"] * 55 + ["send"] * 9)


if __name__ == "__main__":
    unittest.main()
