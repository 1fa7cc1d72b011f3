"""Streams and lanes: what comes to a lane and what goes out of it."""

import random
import unittest

from waitmark.errors import NoLane, NoNumber, NoStream
from waitmark.lanes.lanes import empty_lane, head_out, is_lane, is_stream, lane_passed, lane_renewed, put_in
from waitmark.lanes.rules import come_in, first_memory, is_memory, is_rule, looked, passed, renewed
from tests.things import (FORTY, LIMITS, MOST_WAIT, Case, some_lane, some_memory, some_rule, spoilt, spoilt_deep,
                          things, within)

NONE = ("none",)
LATE = ("late", 5, 3)
SHARE = ("share", 5, 4, 20, 30)
RULES = (NONE, LATE, ("late", 1, 1), ("late", 99, 99), SHARE, ("share", 1, 1, 0, 0), ("share", 99, 99, 999, 999))
STREAMS = ((1, NONE, 9), (2, LATE, 3), (9, SHARE, 99), (9, NONE, 1), (1, ("late", 1, 1), 2),
           (3, ("share", 1, 1, 0, 0), 4))
# A memory of each kind that is not the first.
MEMORIES = {"none": (), "late": (3, 0, 7), "share": (2, 300, 9, 700)}


def fits_stream(thing):
    return (type(thing) is tuple and len(thing) == 3 and within(thing[0], 1, 9) and is_rule(thing[1])
            and within(thing[2], 1, 99))


def fits_piece(thing):
    if type(thing) is not tuple or len(thing) != 4:
        return False
    size, can, marked, wait = thing
    return (within(size, 1, 9) and type(can) is bool and type(marked) is bool and (can or not marked)
            and within(wait, 0, MOST_WAIT))


def fits_lane(stream, thing):
    if type(thing) is not tuple or len(thing) != 3:
        return False
    credit, pieces, memory = thing
    if not within(credit, 0, 9 * stream[0] + 8) or type(pieces) is not tuple or not is_memory(stream[1], memory):
        return False
    if len(pieces) > stream[2] or not all(fits_piece(piece) for piece in pieces) or (credit and not pieces):
        return False
    return all(ahead[3] >= behind[3] for ahead, behind in zip(pieces, pieces[1:]))


class TestStreams(Case):

    def test_streams_of_each_kind_at_their_bounds(self):
        for rule in RULES:
            for weight in (1, 2, 9):
                for limit in LIMITS:
                    self.tells(True, is_stream, (weight, rule, limit))
            for beside in (0, -1, 10, 99, 10 ** 6, FORTY, -FORTY, True, False, None, "1", (1,), [1]):
                self.tells(False, is_stream, (beside, rule, 9))
            for beside in (0, -1, 100, FORTY, -FORTY, True, False, None, "9", (9,), [9]):
                self.tells(False, is_stream, (1, rule, beside))

    def test_no_rule_no_stream(self):
        for rule in RULES:
            for bad in spoilt(rule):
                self.tells(is_rule(bad), is_stream, (1, bad, 9))
        for thing in things():
            self.tells(is_rule(thing), is_stream, (1, thing, 9))

    def test_parts_more_or_less_and_things_of_all_kinds(self):
        for stream in STREAMS:
            self.tells(True, is_stream, stream)
            for bad in spoilt_deep(stream):
                self.tells(fits_stream(bad), is_stream, bad)
            self.tells(False, is_stream, list(stream))
            self.tells(False, is_stream, stream[:2])
            self.tells(False, is_stream, stream + (9,))
            self.tells(False, is_stream, (stream,))
        for thing in things():
            self.tells(fits_stream(thing), is_stream, thing)
        self.tells(False, is_stream, (9, 1, NONE))
        self.tells(False, is_stream, (1, ["none"], 9))


class TestLanes(Case):

    def test_the_empty_lane(self):
        for stream in STREAMS:
            self.tells((0, (), first_memory(stream[1])), empty_lane, stream)
            self.tells(True, is_lane, stream, empty_lane(stream))
        self.tells((0, (), ()), empty_lane, (1, NONE, 9))
        self.tells((0, (), (None, None, 0)), empty_lane, (1, LATE, 9))
        self.tells((0, (), (0, 0, 0, 0)), empty_lane, (1, SHARE, 9))

    def test_credit(self):
        for weight in (1, 2, 9):
            stream = (weight, NONE, 9)
            piece = (9, False, False, 0)
            for credit in (0, 1, 8, 9, 9 * weight, 9 * weight + 8):
                self.tells(True, is_lane, stream, (credit, (piece,), ()))
                self.tells(credit == 0, is_lane, stream, (credit, (), ()))
            for credit in (-1, 9 * weight + 9, 100, FORTY, True, False, None, "0", (), [0]):
                self.tells(False, is_lane, stream, (credit, (piece,), ()))
                self.tells(False, is_lane, stream, (credit, (), ()))

    def test_from_no_piece_to_one_more_than_the_limit(self):
        for rule in RULES:
            for limit in LIMITS:
                for many in (0, 1, limit - 1, limit, limit + 1, 2 * limit):
                    lane = (0, ((9, False, False, 0),) * many, first_memory(rule))
                    self.tells(many <= limit, is_lane, (1, rule, limit), lane)

    def test_pieces(self):
        stream = (1, NONE, 9)
        for size in (1, 2, 9):
            for wait in (0, 1, 99, MOST_WAIT):
                for can, marked in ((False, False), (True, False), (True, True)):
                    self.tells(True, is_lane, stream, (0, ((size, can, marked, wait),), ()))
                self.tells(False, is_lane, stream, (0, ((size, False, True, wait),), ()))
        for size in (0, -1, 10, FORTY, True, None, "1", (1,)):
            self.tells(False, is_lane, stream, (0, ((size, True, False, 0),), ()))
        for wait in (-1, MOST_WAIT + 1, FORTY, True, False, None, "0", ()):
            self.tells(False, is_lane, stream, (0, ((1, True, False, wait),), ()))
        for truth in (0, 1, None, "", "True", (), (True,), 2, FORTY):
            self.tells(False, is_lane, stream, (0, ((1, truth, False, 0),), ()))
            self.tells(False, is_lane, stream, (0, ((1, True, truth, 0),), ()))

    def test_no_wait_above_that_of_the_one_ahead(self):
        for waits, due in (((0, 0), True), ((1, 0), True), ((0, 1), False), ((5, 5, 5), True), ((5, 4, 5), False),
                           ((3, 5, 4), False), ((9, 5, 0), True), ((MOST_WAIT, MOST_WAIT), True),
                           ((MOST_WAIT, 0), True), ((0, MOST_WAIT), False), ((9, 8, 7, 6, 7), False)):
            for rule in RULES:
                lane = (0, tuple((1, True, False, wait) for wait in waits), first_memory(rule))
                self.tells(due, is_lane, (1, rule, 9), lane)

    def test_memories_of_other_rules(self):
        for rule in RULES:
            for other in RULES:
                for memory in (first_memory(other), MEMORIES[other[0]]):
                    due = is_memory(rule, memory)
                    self.tells(due, is_lane, (1, rule, 9), (0, (), memory))
                    self.tells(due, is_lane, (1, rule, 9), (5, ((1, True, True, 3),), memory))
        self.tells(False, is_lane, (1, LATE, 9), (0, (), ()))
        self.tells(False, is_lane, (1, NONE, 9), (0, (), (0, 0, 0, 0)))

    def test_lanes_spoilt_at_any_depth(self):
        for stream in STREAMS:
            memory = MEMORIES[stream[1][0]]
            memory = memory if is_memory(stream[1], memory) else first_memory(stream[1])
            for lane in ((0, (), memory), (9, ((9, True, True, 7),), memory),
                         (0, ((9, True, True, 7), (1, False, False, 7))[:stream[2]], memory)):
                self.tells(True, is_lane, stream, lane)
                for bad in spoilt_deep(lane):
                    self.tells(fits_lane(stream, bad), is_lane, stream, bad)
                    self.assertEqual(bad == lane and repr(bad) == repr(lane), False)

    def test_things_of_all_kinds(self):
        for stream in STREAMS:
            memory = first_memory(stream[1])
            for thing in things():
                self.tells(False, is_lane, stream, thing)
                self.tells(fits_lane(stream, (0, thing, memory)), is_lane, stream, (0, thing, memory))
                self.tells(False, is_lane, stream, (0, (thing,), memory))
                self.tells(False, is_lane, stream, (0, [thing], memory))
                self.tells(is_memory(stream[1], thing), is_lane, stream, (0, (), thing))

    def test_by_chance(self):
        chance = random.Random(3)
        for _ in range(300):
            stream = (chance.randint(1, 9), some_rule(chance), chance.choice(LIMITS))
            self.tells(True, is_lane, stream, some_lane(chance, stream))


class TestPutIn(Case):

    def test_without_a_share_rule_all_come(self):
        for stream in ((1, NONE, 2), (2, LATE, 2)):
            memory = MEMORIES[stream[1][0]]
            lane = (0, (), memory)
            for size in range(1, 10):
                self.tells(((0, ((size, True, False, 0),), memory), "come"), put_in, stream, lane, size)
                self.tells(((0, ((size, True, False, 0),), memory), "come"), put_in, stream, lane, size, can=True)
                self.tells(((0, ((size, False, False, 0),), memory), "come"), put_in, stream, lane, size, can=False)
            one = (7, ((3, True, True, 0),), memory)
            self.tells(((7, ((3, True, True, 0), (4, False, False, 0)), memory), "come"), put_in, stream, one, 4,
                       can=False)

    def test_it_is_put_in_last(self):
        stream = (9, NONE, 9)
        pieces = ((1, True, False, MOST_WAIT), (2, False, False, 5), (3, True, True, 0))
        self.tells(((89, pieces + ((9, True, False, 0),), ()), "come"), put_in, stream, (89, pieces, ()), 9)

    def test_full(self):
        for rule in RULES:
            memory = MEMORIES[rule[0]] if is_memory(rule, MEMORIES[rule[0]]) else first_memory(rule)
            for limit in LIMITS:
                stream = (1, rule, limit)
                lane = (17, ((1, True, False, 3),) * limit, memory)
                for can in (False, True):
                    self.tells((lane, "full"), put_in, stream, lane, 9, can=can)
                lane = (17, ((1, True, False, 3),) * (limit - 1), memory) if limit > 1 else (0, (), memory)
                self.assertNotEqual(put_in(stream, lane, 9)[1], "full")

    def test_full_goes_ahead_of_a_share_strike(self):
        stream = (1, SHARE, 1)
        lane = (0, ((5, True, False, 3),), (2, 1000, 9, 999))
        for can in (False, True):
            self.tells((lane, "full"), put_in, stream, lane, 5, can=can)

    def test_share_strikes(self):
        stream = (1, SHARE, 3)
        pieces = ((5, False, False, 2),)
        lane = (4, pieces, (2, 300, 9, 700))
        marked = (4, pieces + ((6, True, True, 0),), (2, 300, 9, 0))
        self.tells((marked, "mark"), put_in, stream, lane, 6)
        self.tells((marked, "mark"), put_in, stream, lane, 6, can=True)
        self.tells(((4, pieces, (2, 300, 9, 0)), "drop"), put_in, stream, lane, 6, can=False)
        lane = (4, pieces, (2, 299, 9, 700))
        for can in (False, True):
            due = ((4, pieces + ((6, can, False, 0),), (2, 299, 9, 999)), "come")
            self.tells(due, put_in, stream, lane, 6, can=can)

    def test_share_strikes_of_an_empty_lane(self):
        stream = (1, SHARE, 1)
        lane = (0, (), (0, 1000, 0, 999))
        self.tells(((0, (), (0, 1000, 0, 999)), "drop"), put_in, stream, lane, 6, can=False)
        self.tells(((0, ((6, True, True, 0),), (0, 1000, 0, 999)), "mark"), put_in, stream, lane, 6)

    def test_by_chance(self):
        chance = random.Random(5)
        for _ in range(400):
            stream = (chance.randint(1, 9), some_rule(chance), chance.choice((1, 2, 9, 99)))
            lane = some_lane(chance, stream)
            size, can = chance.randint(1, 9), chance.random() < 0.5
            memory, struck = come_in(stream[1], lane[2])
            if len(lane[1]) == stream[2]:
                due = (lane, "full")
            elif struck and not can:
                due = ((lane[0], lane[1], memory), "drop")
            else:
                due = ((lane[0], lane[1] + ((size, can, struck, 0),), memory), "mark" if struck else "come")
            self.tells(due, put_in, stream, lane, size, can=can)
            self.tells(True, is_lane, stream, due[0])

    def test_can_comes_by_name_alone(self):
        with self.assertRaises(TypeError):
            put_in(STREAMS[0], empty_lane(STREAMS[0]), 1, True)


class TestHeadOut(Case):

    def test_without_a_late_rule_nothing_is_looked_at(self):
        for rule in (NONE, SHARE):
            memory = MEMORIES[rule[0]]
            for can, marked, word in ((False, False, "send"), (True, False, "send"), (True, True, "bell")):
                for wait in (0, 5, 99, MOST_WAIT):
                    head, last = (3, can, marked, wait), (4, True, True, 0)
                    self.tells(((0, (), memory), word), head_out, (1, rule, 9), (0, (head,), memory))
                    self.tells(((0, (), memory), word), head_out, (1, rule, 9), (17, (head,), memory))
                    self.tells(((17, (last,), memory), word), head_out, (1, rule, 9), (17, (head, last), memory))

    def test_credit_stays_but_of_a_lane_then_empty(self):
        for stream in STREAMS:
            memory = first_memory(stream[1])
            for credit in (0, 1, 9 * stream[0] + 8):
                lane = (credit, ((9, False, False, 0),) * min(2, stream[2]), memory)
                told, _ = self.ask(head_out, stream, lane)
                self.same(told[0], credit if stream[2] > 1 else 0)

    def test_late_heads(self):
        stream, behind = (1, LATE, 9), ((2, False, False, 0),)
        for memory, wait, due, struck in (
                ((None, None, 4), 4, (None, None, 4), False), ((None, None, 4), 5, (0, None, 4), False),
                ((1, None, 4), 4, (None, None, 4), False), ((1, None, 4), 5, (1, None, 4), False),
                ((3, None, 4), 5, (3, 1, 3), True), ((3, None, 4), 4, (None, None, 4), False),
                ((3, 1, 4), 5, (3, 1, 4), False), ((3, 0, 4), 5, (3, 1, 5), True), ((3, 0, 9), 5, (3, 1, 9), True),
                ((3, 0, 1), MOST_WAIT, (3, 2, 2), True), ((3, None, 0), 99, (3, 3, 1), True)):
            for can, marked in ((False, False), (True, False), (True, True)):
                word = "drop" if struck and not can else "bell" if struck or marked else "send"
                lane = (9, ((8, can, marked, wait),) + behind, memory)
                self.tells(((9, behind, due), word), head_out, stream, lane)
                alone = (9, ((8, can, marked, wait),), memory)
                self.tells(((0, (), (None, None, memory[2])), "bell" if marked else "send"), head_out, stream, alone)

    def test_a_late_head_that_may_not_be_marked_is_dropped_and_keeps_the_credit(self):
        lane = (12, ((9, False, False, 7), (1, True, False, 7)), (3, None, 0))
        self.tells(((12, ((1, True, False, 7),), (3, 3, 1)), "drop"), head_out, (1, LATE, 2), lane)

    def test_by_chance(self):
        chance = random.Random(7)
        for _ in range(400):
            stream = (chance.randint(1, 9), some_rule(chance), chance.choice((1, 2, 9, 99)))
            lane = some_lane(chance, stream, many=chance.randint(1, stream[2]))
            credit, pieces, memory = lane
            _, can, marked, wait = pieces[0]
            memory, struck = looked(stream[1], memory, wait, alone=len(pieces) == 1)
            word = "send" if not struck and not marked else "bell" if can else "drop"
            due = ((credit if pieces[1:] else 0, pieces[1:], memory), word)
            self.tells(due, head_out, stream, lane)
            self.tells(True, is_lane, stream, due[0])


class TestRenewedAndPassed(Case):

    def test_renewed_by_the_head(self):
        stream, pieces = (1, SHARE, 9), ((2, True, False, 6), (3, False, False, 2))
        self.tells((5, pieces, (0, 550, 6, 7)), lane_renewed, stream, (5, pieces, (0, 500, 5, 7)))
        self.tells((5, pieces, (1, 500, 5, 7)), lane_renewed, stream, (5, pieces, (1, 500, 5, 7)))
        old = ((2, True, False, MOST_WAIT),)
        self.tells((5, old, (0, 1000, 99, 7)), lane_renewed, stream, (5, old, (0, 500, 5, 7)))

    def test_renewed_by_nought_where_it_is_empty(self):
        self.tells((0, (), (0, 250, 0, 7)), lane_renewed, (1, SHARE, 9), (0, (), (0, 500, 5, 7)))
        self.tells((0, (), (0, 0, 0, 7)), lane_renewed, (1, SHARE, 9), (0, (), (0, 100, 50, 7)))

    def test_renewed_by_other_rules_nothing_changes(self):
        for rule in (NONE, LATE):
            for lane in ((0, (), MEMORIES[rule[0]]), (9, ((2, True, True, 99),), MEMORIES[rule[0]])):
                self.tells(lane, lane_renewed, (1, rule, 9), lane)

    def test_passed(self):
        most = MOST_WAIT
        pieces = ((2, True, True, most), (1, True, False, most - 1), (3, False, False, 7), (9, True, False, 0))
        older = ((2, True, True, most), (1, True, False, most), (3, False, False, 8), (9, True, False, 1))
        for rule, memory, due in ((NONE, (), ()), (LATE, (2, None, 7), (3, None, 7)), (LATE, (3, 3, 7), (3, 2, 7)),
                                  (SHARE, (0, 500, 5, 7), (3, 500, 5, 7)), (SHARE, (3, 500, 5, 7), (2, 500, 5, 7))):
            self.tells((7, older, due), lane_passed, (1, rule, 4), (7, pieces, memory))
            self.tells((0, (), due), lane_passed, (1, rule, 4), (0, (), memory))

    def test_by_chance(self):
        chance = random.Random(11)
        for _ in range(400):
            stream = (chance.randint(1, 9), some_rule(chance), chance.choice((1, 2, 9, 99)))
            credit, pieces, memory = lane = some_lane(chance, stream)
            wait = pieces[0][3] if pieces else 0
            self.tells((credit, pieces, renewed(stream[1], memory, wait)), lane_renewed, stream, lane)
            older = tuple(piece[:3] + (min(piece[3] + 1, MOST_WAIT),) for piece in pieces)
            self.tells((credit, older, passed(stream[1], memory)), lane_passed, stream, lane)
            self.tells(True, is_lane, stream, lane_renewed(stream, lane))
            self.tells(True, is_lane, stream, lane_passed(stream, lane))


class TestRefusals(Case):

    def test_no_stream_goes_first(self):
        for stream in things() + list(spoilt((1, NONE, 9))) + [(1, NONE, 100), (10, NONE, 9), (1, ("none", 0), 9)]:
            if fits_stream(stream):
                continue
            self.refuses(NoStream, empty_lane, stream)
            for lane in ((0, (), ()), None, stream):
                self.refuses(NoStream, is_lane, stream, lane)
                self.refuses(NoStream, head_out, stream, lane)
                self.refuses(NoStream, lane_renewed, stream, lane)
                self.refuses(NoStream, lane_passed, stream, lane)
                for size in (1, 0, None):
                    self.refuses(NoStream, put_in, stream, lane, size)
                    self.refuses(NoStream, put_in, stream, lane, size, can=False)

    def test_no_lane_of_it_goes_next(self):
        chance = random.Random(13)
        for stream in STREAMS:
            bad = [(0, (), some_memory(chance, other[1])) for other in STREAMS]
            bad += [(1, (), first_memory(stream[1])), (0, ((1, False, False, 0),) * (stream[2] + 1), ())]
            for lane in things() + bad + list(spoilt_deep(empty_lane(stream))):
                if fits_lane(stream, lane):
                    continue
                self.refuses(NoLane, head_out, stream, lane)
                self.refuses(NoLane, lane_renewed, stream, lane)
                self.refuses(NoLane, lane_passed, stream, lane)
                for size in (1, 0, None, True):
                    self.refuses(NoLane, put_in, stream, lane, size)
                    self.refuses(NoLane, put_in, stream, lane, size, can=False)

    def test_no_size(self):
        for stream in STREAMS:
            full = (0, ((1, False, False, 0),) * stream[2], first_memory(stream[1]))
            for size in things():
                if not within(size, 1, 9):
                    for lane in (empty_lane(stream), full):
                        self.refuses(NoNumber, put_in, stream, lane, size)
                        self.refuses(NoNumber, put_in, stream, lane, size, can=False)

    def test_no_head_in_an_empty_lane(self):
        for stream in STREAMS:
            self.refuses(NoLane, head_out, stream, empty_lane(stream))
            self.refuses(NoLane, head_out, stream, (0, (), first_memory(stream[1])))
        self.refuses(NoLane, head_out, (1, LATE, 9), (0, (), (3, 0, 7)))


if __name__ == "__main__":
    unittest.main()
