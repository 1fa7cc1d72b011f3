"""Standings, and how lanes are served by turns and weights."""

import itertools
import random
import unittest

from waitmark.errors import NoRate, NoStanding, NoStreams
from waitmark.lanes.lanes import empty_lane, is_lane, is_stream
from waitmark.lanes.turns import first_standing, is_standing, served
from tests.things import FORTY, Case, Model, some_standing, some_streams, spoilt, spoilt_deep, things, within

NONE = ("none",)
LATE = ("late", 5, 3)
SHARE = ("share", 5, 4, 20, 30)
PLAIN = (1, NONE, 9)
TWO = (PLAIN, (2, LATE, 3))
EIGHT = ((1, NONE, 1), (9, LATE, 99), (2, SHARE, 2), (3, NONE, 3), (4, NONE, 4), (5, LATE, 5), (6, SHARE, 6),
         (7, NONE, 7))
FRESH = (None, None, 0)


def piece(size, wait=0, can=False, marked=False):
    return (size, can, marked, wait)


def lane(credit, *sizes, memory=()):
    """A lane whose pieces have these sizes, none of them to be marked."""
    return (credit, tuple(piece(size) for size in sizes), memory)


def fit_streams(thing):
    return type(thing) is tuple and 1 <= len(thing) <= 8 and all(is_stream(stream) for stream in thing)


def fits_standing(streams, thing):
    if type(thing) is not tuple or len(thing) != 4:
        return False
    budget, begun, ring, lanes = thing
    if not within(budget, 0, 8) or type(begun) is not bool or type(ring) is not tuple or type(lanes) is not tuple:
        return False
    if len(lanes) != len(streams) or not all(is_lane(stream, part) for stream, part in zip(streams, lanes)):
        return False
    if any(type(number) is not int for number in ring):
        return False
    if sorted(ring) != [number for number in range(len(lanes)) if lanes[number][1]]:
        return False
    if not ring:
        return budget == 0 and begun is False
    return all(lanes[number][0] < 9 for number in (ring[1:] if begun else ring))


class TestStandings(Case):

    def test_the_first(self):
        self.tells((0, False, (), ((0, (), ()),)), first_standing, (PLAIN,))
        self.tells((0, False, (), ((0, (), ()), (0, (), FRESH))), first_standing, TWO)
        for many in range(1, 9):
            streams = EIGHT[:many]
            due = (0, False, (), tuple(empty_lane(stream) for stream in streams))
            self.tells(due, first_standing, streams)
            self.tells(True, is_standing, streams, due)

    def test_memories_of_empty_lanes_are_free(self):
        self.tells(True, is_standing, TWO, (0, False, (), (lane(0), lane(0, memory=(3, 0, 9)))))
        self.tells(False, is_standing, TWO, (0, False, (), (lane(0), lane(0, memory=(3, 4, 9)))))
        self.tells(False, is_standing, TWO, (0, False, (), (lane(0), lane(0))))

    def test_budgets(self):
        for budget in range(9):
            for begun in (False, True):
                self.tells(True, is_standing, (PLAIN,), (budget, begun, (0,), (lane(0, 9),)))
            self.tells(budget == 0, is_standing, (PLAIN,), (budget, False, (), (lane(0),)))
        for budget in (-1, 9, 10, FORTY, -FORTY, True, False, None, "0", (), [0]):
            self.tells(False, is_standing, (PLAIN,), (budget, False, (0,), (lane(0, 9),)))
            self.tells(False, is_standing, (PLAIN,), (budget, False, (), (lane(0),)))

    def test_begun_is_a_truth_and_false_of_an_empty_ring(self):
        self.tells(False, is_standing, (PLAIN,), (0, True, (), (lane(0),)))
        for begun in (0, 1, None, "", "True", (), FORTY, [True]):
            self.tells(False, is_standing, (PLAIN,), (0, begun, (0,), (lane(0, 9),)))
            self.tells(False, is_standing, (PLAIN,), (0, begun, (), (lane(0),)))

    def test_credits(self):
        for credit in range(0, 30):
            for begun in (False, True):
                for ring in ((0, 1), (1, 0)):
                    lanes = (lane(credit, 1), lane(0, 1, memory=FRESH))
                    due = credit <= 8 or (begun and ring[0] == 0 and credit <= 17)
                    self.tells(due, is_standing, TWO, (0, begun, ring, lanes))
                    lanes = (lane(0, 1), lane(credit, 1, memory=FRESH))
                    due = credit <= 8 or (begun and ring[0] == 1 and credit <= 26)
                    self.tells(due, is_standing, TWO, (0, begun, ring, lanes))
        self.tells(False, is_standing, TWO, (0, True, (0, 1), (lane(17, 1), lane(9, 1, memory=FRESH))))
        self.tells(False, is_standing, TWO, (0, False, (0,), (lane(0, 1), lane(1, memory=FRESH))))

    def test_rings(self):
        streams = (PLAIN,) * 3
        for here in itertools.product((False, True), repeat=3):
            lanes = tuple(lane(0, 5) if full else lane(0) for full in here)
            due = [number for number, full in enumerate(here) if full]
            for many in range(5):
                for ring in itertools.product(range(-1, 4), repeat=many):
                    told = is_standing(streams, (0, False, ring, lanes))
                    self.assertIs(told, sorted(ring) == due, (ring, here))

    def test_rings_of_other_things(self):
        lanes = (lane(0, 5), lane(0, 5))
        for ring in ([0, 1], (0, True), (False, 1), (0, "1"), (0, None), (0, (1,)), ((0, 1),), (0, [1]), {0: 1}, "01",
                     None, 1, True, (0, 1, None), (None, 0, 1), (0, FORTY), (0, -1), (1, {}), ("0", "1")):
            self.tells(False, is_standing, (PLAIN, PLAIN), (0, False, ring, lanes))
        self.tells(False, is_standing, (PLAIN,), (0, False, [], (lane(0),)))
        for thing in things():
            self.tells(repr(thing) == "()", is_standing, (PLAIN,), (0, False, thing, (lane(0),)))
            self.tells(False, is_standing, (PLAIN,), (0, False, (thing,), (lane(0),)))

    def test_lanes(self):
        self.tells(False, is_standing, TWO, (0, False, (), (lane(0),)))
        self.tells(False, is_standing, TWO, (0, False, (), (lane(0), lane(0, memory=FRESH), lane(0))))
        self.tells(False, is_standing, TWO, (0, False, (), (lane(0, memory=FRESH), lane(0))))
        self.tells(False, is_standing, TWO, (0, False, (), [lane(0), lane(0, memory=FRESH)]))
        self.tells(False, is_standing, TWO, (0, False, (), ()))
        for thing in things():
            self.tells(False, is_standing, TWO, (0, False, (), thing))
            self.tells(False, is_standing, TWO, (0, False, (), (lane(0), thing)))

    def test_standings_spoilt_at_any_depth(self):
        chance = random.Random(17)
        for streams in ((PLAIN,), TWO, (PLAIN, (2, SHARE, 2), (1, LATE, 1))):
            for standing in [first_standing(streams)] + [some_standing(chance, streams) for _ in range(4)]:
                if repr(standing).count(",") > 90:
                    continue
                self.tells(True, is_standing, streams, standing)
                for bad in spoilt_deep(standing):
                    told = is_standing(streams, bad)
                    self.assertIs(told, fits_standing(streams, bad), bad)

    def test_things_of_all_kinds(self):
        for streams in ((PLAIN,), TWO, EIGHT):
            for thing in things():
                self.tells(False, is_standing, streams, thing)
                self.tells(False, is_standing, streams, (0, False, (), (thing,) * len(streams)))

    def test_by_chance(self):
        chance = random.Random(19)
        for _ in range(150):
            streams = some_streams(chance)
            standing = some_standing(chance, streams)
            self.tells(True, is_standing, streams, standing)
            budget, begun, ring, lanes = standing
            if len(ring) > 1:
                turned = ring[1:] + ring[:1]
                due = not begun or lanes[ring[0]][0] <= 8
                self.tells(due, is_standing, streams, (budget, begun, turned, lanes))
                self.tells(False, is_standing, streams, (budget, begun, ring[1:], lanes))
                self.tells(False, is_standing, streams, (budget, begun, ring + ring[:1], lanes))
                self.tells(False, is_standing, streams, (budget, begun, ring[:-1] + ring[:1], lanes))
            for more in range(len(streams)):
                self.tells(False, is_standing, streams, (budget, begun, ring + (more,), lanes))


class TestServed(Case):

    def test_where_nothing_waits(self):
        for many in range(1, 9):
            streams = EIGHT[:many]
            for rate in (1, 99):
                self.tells((first_standing(streams), ()), served, streams, rate, first_standing(streams))
        standing = (0, False, (), (lane(0), lane(0, memory=(3, 0, 9))))
        self.tells((standing, ()), served, TWO, 5, standing)

    def test_a_turn_begins_and_the_budget_ends_the_serving(self):
        standing = (0, False, (0,), (lane(1, 5, 5, 5),))
        self.tells(((1, True, (0,), (lane(5, 5, 5),)), (("send", 0, 5, 0),)), served, (PLAIN,), 6, standing)
        self.tells(((3, True, (0,), (lane(10, 5, 5, 5),)), ()), served, (PLAIN,), 3, standing)

    def test_a_turn_ends_and_the_next_one_begins(self):
        standing = (0, False, (0,), (lane(0, 5, 5, 5),))
        due = ((0, True, (0,), (lane(8, 5),)), (("send", 0, 5, 0), ("send", 0, 5, 0)))
        self.tells(due, served, (PLAIN,), 10, standing)
        streams = (PLAIN, PLAIN)
        standing = (0, False, (1, 0), (lane(8, 9, 9), lane(3, 6, 6, 7)))
        due = ((0, True, (1, 0), (lane(8, 9), lane(9, 7))), (("send", 1, 6, 0), ("send", 1, 6, 0), ("send", 0, 9, 0)))
        self.tells(due, served, streams, 21, standing)

    def test_a_begun_turn_does_not_begin_once_more(self):
        standing = (0, True, (0, 1), (lane(0, 5), lane(0, 5)))
        streams = (PLAIN, PLAIN)
        due = ((3, True, (0,), (lane(9, 5), lane(0))), (("send", 1, 5, 0),))
        self.tells(due, served, streams, 8, standing)
        standing = (0, True, (0, 1), (lane(17, 9, 8), lane(0, 5)))
        due = ((0, True, (1,), (lane(0), lane(9, 5))), (("send", 0, 9, 0), ("send", 0, 8, 0)))
        self.tells(due, served, streams, 17, standing)

    def test_weights(self):
        streams = ((1, NONE, 99), (3, NONE, 99))
        standing = (0, False, (0, 1), (lane(0, *[9] * 10), lane(0, *[9] * 10)))
        told, rows = self.ask(served, streams, 72, standing)
        self.same([row[1] for row in rows], [0, 1, 1, 1, 0, 1, 1, 1])
        self.same(told[:3], (0, True, (0, 1)))

    def test_a_lane_then_empty_leaves_the_ring_and_its_turn_is_over(self):
        streams = (PLAIN, (2, NONE, 9))
        standing = (0, False, (0, 1), (lane(8, 1), lane(8, 1, 9)))
        due = ((0, True, (1,), (lane(0), lane(25, 9))), (("send", 0, 1, 0), ("send", 1, 1, 0)))
        self.tells(due, served, streams, 2, standing)

    def test_where_nothing_waits_then_the_budget_is_nought(self):
        standing = (8, True, (0,), (lane(17, 5),))
        self.tells(((0, False, (), (lane(0),)), (("send", 0, 5, 0),)), served, (PLAIN,), 99, standing)
        standing = (8, False, (1, 0), (lane(8, 5), lane(8, 3, memory=FRESH)))
        due = ((0, False, (), (lane(0), lane(0, memory=FRESH))), (("send", 1, 3, 0), ("send", 0, 5, 0)))
        self.tells(due, served, TWO, 99, standing)

    def test_credit_is_asked_ahead_of_the_budget(self):
        streams = (PLAIN, PLAIN)
        standing = (0, True, (0, 1), (lane(4, 5), lane(8, 1)))
        self.tells(((0, True, (0,), (lane(13, 5), lane(0))), (("send", 1, 1, 0),)), served, streams, 1, standing)
        standing = (0, True, (0, 1), (lane(4, 5), lane(8, 2)))
        due = ((1, True, (1, 0), (lane(4, 5), lane(17, 2))), ())
        self.tells(due, served, streams, 1, standing)

    def test_a_dropped_head_costs_nothing(self):
        pieces = (piece(4, 9), piece(5, 9), piece(1))
        standing = (0, False, (0,), ((0, pieces, (3, None, 0)),))
        due = ((0, True, (0,), ((13, (piece(1),), (3, 3, 1)),)), (("drop", 0, 4, 9), ("send", 0, 5, 9)))
        self.tells(due, served, ((2, LATE, 3),), 5, standing)
        due = ((4, True, (0,), ((18, pieces[1:], (3, 3, 1)),)), (("drop", 0, 4, 9),))
        self.tells(due, served, ((2, LATE, 3),), 4, standing)
        # Though it costs nothing, it goes out only where its size is within credit and budget.
        due = ((3, True, (0,), ((18, pieces, (3, None, 0)),)), ())
        self.tells(due, served, ((2, LATE, 3),), 3, standing)

    def test_bells_cost_their_size(self):
        pieces = (piece(4, 9, True), piece(5, 9, True, True), piece(1))
        standing = (0, False, (0,), ((0, pieces, (3, None, 0)),))
        due = ((0, True, (0,), ((9, (piece(1),), (3, 3, 1)),)), (("bell", 0, 4, 9), ("bell", 0, 5, 9)))
        self.tells(due, served, ((2, LATE, 3),), 9, standing)

    def test_nothing_is_renewed_come_or_passed(self):
        standing = (0, False, (0,), ((0, (piece(9, 7), piece(9, 5)), (0, 500, 5, 700)),))
        due = (0, True, (0,), ((9, (piece(9, 5),), (0, 500, 5, 700)),))
        self.tells((due, (("send", 0, 9, 7),)), served, ((2, SHARE, 3),), 9, standing)

    def test_by_chance_like_the_model(self):
        chance = random.Random(23)
        for _ in range(400):
            streams = some_streams(chance)
            standing = some_standing(chance, streams)
            rate = chance.choice((1, 2, 9, chance.randint(1, 99), 99))
            model = Model(streams, standing)
            model.serve(rate)
            self.tells((model.standing(), tuple(model.rows)), served, streams, rate, standing)
            self.tells(True, is_standing, streams, model.standing())

    def test_two_servings_are_one_by_both_rates(self):
        chance = random.Random(29)
        for _ in range(300):
            streams = some_streams(chance)
            standing = some_standing(chance, streams)
            rate = chance.randint(2, 99)
            part = chance.randint(1, rate - 1)
            between, rows = served(streams, part, standing)
            behind, more = served(streams, rate - part, between)
            due = served(streams, rate, standing)
            # Where nothing waits in between, the second serving's rate isn't kept either.
            self.same((behind, rows + more), due)

    def test_each_streams_pieces_go_out_in_order(self):
        chance = random.Random(31)
        for _ in range(100):
            streams = some_streams(chance)
            standing = some_standing(chance, streams)
            behind, rows = served(streams, 99, standing)
            for number, stands in enumerate(standing[3]):
                out = [(row[2], row[3]) for row in rows if row[1] == number]
                left = [(part[0], part[3]) for part in behind[3][number][1]]
                self.assertEqual(out + left, [(part[0], part[3]) for part in stands[1]])


class TestRefusals(Case):

    def test_no_streams_go_first(self):
        bad = [(), (PLAIN,) * 9, [PLAIN], PLAIN, (PLAIN, None), (PLAIN, [1, NONE, 9]), (PLAIN, (1, NONE, 100))]
        for streams in bad + things() + list(spoilt(TWO)):
            if fit_streams(streams):
                continue
            self.refuses(NoStreams, first_standing, streams)
            for standing in (first_standing((PLAIN,)), None):
                self.refuses(NoStreams, is_standing, streams, standing)
                for rate in (9, 0, None):
                    self.refuses(NoStreams, served, streams, rate, standing)

    def test_no_rate_goes_next(self):
        for rate in things() + [0, 100, -1]:
            if not within(rate, 1, 99):
                for standing in (first_standing(TWO), None, first_standing((PLAIN,))):
                    self.refuses(NoRate, served, TWO, rate, standing)

    def test_no_standing_of_these_streams(self):
        for rate in (1, 9, 99):
            for standing in things() + list(spoilt_deep(first_standing(TWO))) + [first_standing((PLAIN,))]:
                if not fits_standing(TWO, standing):
                    self.refuses(NoStanding, served, TWO, rate, standing)
        self.refuses(NoStanding, served, (PLAIN,), 9, (0, False, (0,), (lane(9, 9),)))
        self.refuses(NoStanding, served, (PLAIN,), 9, (0, True, (), (lane(0),)))


if __name__ == "__main__":
    unittest.main()
