"""Small lanes, small runs, and the greatest wait."""

import itertools
import random
import unittest

from waitmark.errors import NoLane, NoNumber, NoRule, NoRun, TooWide
from waitmark.lanes.lanes import empty_lane
from waitmark.lanes.rules import is_rule
from waitmark.line.line import Line
from waitmark.small import runs as module
from waitmark.small.runs import greatest_wait, shows_greatest, small_done, small_words
from tests.things import (FORTY, MOST_WAIT, Case, fits_small, lane_of, model_search, model_small, small_first, some_rule,
                          some_small_lane, some_small_rule, spoilt, spoilt_deep, things, within)

NONE = ("none",)
LATE = ("late", 1, 1)
SHARE = ("share", 1, 1, 300, 0)
RULES = (NONE, LATE, SHARE, ("late", 99, 99), ("share", 99, 99, 999, 999))
# Of these 1501 lanes, and 1498.
WIDE = (("share", 1, 11, 0, 100), 3, 2)
NOT_WIDE = (("share", 2, 4, 250, 250), 6, 2)


def fits_run(thing, most):
    return type(thing) is tuple and len(thing) <= 1500 and all(within(many, 0, most) for many in thing)


def model_greatest(rule, limit, most):
    """The greatest wait once more, by a search for each wait there is; None where it is too wide."""
    def do(lane, many):
        lane, _, wait = model_small(rule, limit, lane, many)
        return lane, wait

    told = model_search(small_first(rule), do, most)
    if told is None:
        return None
    table = tuple(told[0])
    waits = [do(lane, many)[1] for lane in table for many in range(most + 1)]
    greatest = max(wait for wait in waits if wait is not None)
    run = model_search(small_first(rule), do, most, lambda wait: wait == greatest)[2]
    return (greatest, run, table)


def model_shows(rule, limit, thing, most):
    """What a judge lets by, once more."""
    if type(thing) is not tuple or len(thing) != 3 or not within(thing[0], 0, FORTY) or not fits_run(thing[1], most):
        return False
    wait, run, table = thing
    lane, sent = small_first(rule), None
    for many in run:
        lane, _, sent = model_small(rule, limit, lane, many)
    if sent != wait or type(table) is not tuple or len(table) > 1500:
        return False
    if not all(fits_small(rule, limit, lane) for lane in table):
        return False
    known = set(table)
    if len(known) != len(table) or small_first(rule) not in known:
        return False
    for lane in table:
        for many in range(most + 1):
            behind, _, sent = model_small(rule, limit, lane, many)
            if behind not in known or (sent is not None and sent > wait):
                return False
    return True


class TestDone(Case):

    def test_the_most_that_come(self):
        self.same(module.MOST, 2)

    def test_ordinary_ticks(self):
        self.tells((lane_of(), ()), small_done, NONE, 6, lane_of(), 0)
        self.tells((lane_of(), ("come", "send")), small_done, NONE, 6, lane_of(), 1)
        self.tells((lane_of(1, 1), ("come", "come", "come", "send")), small_done, NONE, 6, lane_of(), 3)
        self.tells((lane_of(1), ("come", "full", "full", "send")), small_done, NONE, 2, lane_of(7), 3)
        self.tells((lane_of(), ("come", "full", "send")), small_done, NONE, 1, lane_of(), 2)
        self.tells((lane_of(MOST_WAIT), ("send",)), small_done, NONE, 2, lane_of(MOST_WAIT, MOST_WAIT), 0)

    def test_heads_go_out_till_one_is_not_dropped(self):
        rule = ("late", 1, 3)
        lane = lane_of(9, 9, 9, 9, memory=(3, None, 8))
        due = (lane_of(10, 10, memory=(3, 0, 5)), ("drop", "send"))
        self.tells(due, small_done, rule, 6, lane, 0)
        # The last one is alone: it is never struck.
        lane = lane_of(9, 9, memory=(3, 0, 8))
        self.tells((lane_of(memory=(None, None, 9)), ("drop", "send")), small_done, rule, 6, lane, 0)
        lane = lane_of(9, memory=(3, 0, 8))
        self.tells((lane_of(memory=(None, None, 8)), ("send",)), small_done, rule, 6, lane, 0)
        self.tells((lane_of(1, memory=(3, 0, 9)), ("come", "drop", "send")), small_done, rule, 6,
                   lane_of(9, 9, memory=(3, 0, 8)), 1)

    def test_it_is_renewed_ahead_of_those_that_come(self):
        rule = ("share", 1, 2, 600, 0)
        lane = lane_of(2, memory=(0, 0, 0, 500))
        # By the wait of 2 the share is 600: the first that comes is struck.
        due = (lane_of(1, memory=(1, 600, 2, 700)), ("drop", "come", "send"))
        self.tells(due, small_done, rule, 6, lane, 2)
        lane = lane_of(2, memory=(1, 0, 0, 500))
        due = (lane_of(1, 1, memory=(0, 0, 0, 500)), ("come", "come", "send"))
        self.tells(due, small_done, rule, 6, lane, 2)

    def test_any_lanes_that_fit_like_the_model(self):
        chance = random.Random(167)
        for _ in range(600):
            rule = chance.choice((some_rule(chance), some_small_rule(chance)))
            limit = chance.randint(1, 6)
            lane = some_small_lane(chance, rule, limit)
            for many in range(4):
                due = model_small(rule, limit, lane, many)[:2]
                self.tells(due, small_done, rule, limit, lane, many)
                self.assertTrue(fits_small(rule, limit, due[0]))

    def test_what_is_no_small_lane(self):
        for rule in RULES:
            memory = empty_lane((1, rule, 6))[2]
            for credit in (1, 8, 17):
                self.refuses(NoLane, small_done, rule, 6, (credit, lane_of(3)[1], memory), 0)
            for piece in ((2, False, False, 3), (9, False, False, 3), (1, True, False, 3), (1, True, True, 3),
                          (1, False, True, 3), (1, 0, False, 3), (1, False, 0, 3), (True, False, False, 3),
                          (1, False, False, -1), (1, False, False, MOST_WAIT + 1), (1, False, False, True),
                          [1, False, False, 3], (1, False, False), None):
                for pieces in ((piece,), ((1, False, False, 3), piece), (piece, (1, False, False, 3))):
                    self.refuses(NoLane, small_done, rule, 6, (0, pieces, memory), 0)
            self.refuses(NoLane, small_done, rule, 6, lane_of(2, 3, memory=memory), 0)
            for limit in range(1, 7):
                self.refuses(NoLane, small_done, rule, limit, lane_of(*[3] * (limit + 1), memory=memory), 0)
            for thing in things():
                for lane in (thing, (0, thing, memory), (thing, lane_of(3)[1], memory), (0, (thing,), memory),
                             (0, (), thing)):
                    if not fits_small(rule, 6, lane):
                        self.refuses(NoLane, small_done, rule, 6, lane, 0)

    def test_spoilt_lanes(self):
        chance = random.Random(173)
        for rule in RULES:
            lane = some_small_lane(chance, rule, 3)
            for bad in spoilt_deep(lane):
                if fits_small(rule, 3, bad):
                    self.ask(small_done, rule, 3, bad, 1)
                else:
                    self.refuses(NoLane, small_done, rule, 3, bad, 1)


class TestWords(Case):

    def test_ordinary_runs(self):
        self.tells((), small_words, NONE, 6, ())
        self.tells(((), ("come", "send"), ("come", "come", "send"), ("send",), ()), small_words, NONE, 6, (0, 1, 2, 0, 0))
        self.tells((("come", "come", "full", "send"), ("come", "full", "send")), small_words, NONE, 2, (3, 2))

    def test_of_small_done_tick_by_tick(self):
        chance = random.Random(179)
        for _ in range(60):
            rule, limit = some_small_rule(chance), chance.randint(1, 6)
            run = tuple(chance.choice((0, 1, 1, 2, 3)) for _ in range(60))
            lane, words = small_first(rule), []
            for many in run:
                lane, told = small_done(rule, limit, lane, many)
                words.append(told)
            self.tells(tuple(words), small_words, rule, limit, run)

    def test_of_a_line_of_this_stream_alone_by_rate_1(self):
        chance = random.Random(181)
        for _ in range(60):
            rule, limit = chance.choice((some_small_rule(chance), some_rule(chance))), chance.randint(1, 6)
            run = tuple(chance.choice((0, 0, 1, 1, 2, 3)) for _ in range(120))
            line = Line(((1, rule, limit),), rate=1)
            told = line.run(tuple(((0, 1, False),) * many for many in run))
            self.tells(tuple(tuple(row[0] for row in rows) for rows in told), small_words, rule, limit, run)
            lane = small_first(rule)
            for many in run:
                lane, _ = small_done(rule, limit, lane, many)
            self.same(line.standing()[3][0][1:], lane[1:])

    def test_runs_of_1500_counts(self):
        for rule in RULES:
            run = tuple(number * number % 7 % 4 for number in range(1500))
            told = self.ask(small_words, rule, 6, run)
            self.same(len(told), 1500)
            lane, words = small_first(rule), []
            for many in run:
                lane, more, _ = model_small(rule, 6, lane, many)
                words.append(more)
            self.same(told, tuple(words))
            self.refuses_run(small_words, rule, 6, run + (0,))

    def test_what_is_no_run(self):
        for bad in ([], [0], (4,), (-1,), (0, 1, 4), (True,), (False,), (None,), ((),), ((1,),), ("1",), (1, [1]), "", None,
                    0, 1, True, {}, (FORTY,), (0,) * 1501):
            self.refuses_run(small_words, NONE, 6, bad)
        for thing in things():
            if not fits_run(thing, 3):
                self.refuses_run(small_words, LATE, 6, thing)
            if not fits_run((0, thing), 3):
                self.refuses_run(small_words, SHARE, 1, (0, thing))
        self.tells((("come", "come", "come", "send"),), small_words, NONE, 6, (3,))


class TestGreatest(Case):

    def test_the_plain_one(self):
        table = (lane_of(), lane_of(1))
        self.tells((1, (2, 0), table), greatest_wait, NONE, 2)
        self.tells((0, (1,), (lane_of(),)), greatest_wait, NONE, 1)
        self.tells((0, (1,), (lane_of(),)), greatest_wait, NONE, 6, most=1)
        table = (lane_of(), lane_of(1), lane_of(1, 1), lane_of(2), lane_of(2, 1))
        self.tells((2, (3, 0, 0), table), greatest_wait, NONE, 3, most=3)

    def test_like_the_model(self):
        chance = random.Random(191)
        kinds = set()
        for _ in range(110):
            rule, limit, most = some_small_rule(chance), chance.randint(1, 6), chance.randint(1, 3)
            due = model_greatest(rule, limit, most)
            kinds.add((rule[0], due is None))
            if due is None:
                self.refuses(TooWide, greatest_wait, rule, limit, most=most)
                continue
            self.tells(due, greatest_wait, rule, limit, most=most)
            self.tells(True, shows_greatest, rule, limit, due, most=most)
            if most == 2:
                self.tells(due, greatest_wait, rule, limit)
                self.tells(True, shows_greatest, rule, limit, due)
        self.assertEqual(kinds, {("none", False), ("late", False), ("share", False), ("late", True), ("share", True)} & kinds)
        self.assertIn(("share", True), kinds)
        self.assertIn(("late", False), kinds)

    def test_each_shorter_run_and_each_lesser_one_sends_less(self):
        for rule, limit, most in ((NONE, 3, 2), (LATE, 4, 3), (("late", 1, 2), 4, 2), (SHARE, 3, 2), (NONE, 4, 3)):
            wait, run, _ = self.ask(greatest_wait, rule, limit, most=most)
            for many in range(len(run) + 1):
                for other in itertools.product(range(most + 1), repeat=many):
                    sent = None
                    lane = small_first(rule)
                    for count in other:
                        lane, _, sent = model_small(rule, limit, lane, count)
                    if sent == wait:
                        self.assertEqual(other, run)
                        break
                else:
                    continue
                break

    def test_the_table_is_in_the_order_of_the_runs(self):
        for rule, limit, most in ((NONE, 5, 3), (("late", 1, 2), 5, 2), (SHARE, 3, 2), (("share", 1, 2, 999, 50), 3, 3)):
            _, _, table = self.ask(greatest_wait, rule, limit, most=most)
            _, runs, _ = model_search(small_first(rule), lambda lane, many: model_small(rule, limit, lane, many)[::2], most)
            order = [(len(runs[lane]), runs[lane]) for lane in table]
            self.assertEqual(order, sorted(order))
            self.assertEqual(len(set(order)), len(runs))

    def test_more_than_1500_lanes(self):
        rule, limit, most = NOT_WIDE
        told = self.ask(greatest_wait, rule, limit, most=most)
        self.same(len(told[2]), 1498)
        self.same(told, model_greatest(rule, limit, most))
        self.tells(True, shows_greatest, rule, limit, told, most=most)
        rule, limit, most = WIDE
        self.same(model_greatest(rule, limit, most), None)
        self.refuses(TooWide, greatest_wait, rule, limit, most=most)
        self.refuses(TooWide, greatest_wait, rule, limit)
        self.refuses(TooWide, greatest_wait, ("late", 1, 99), 6)
        self.refuses(TooWide, greatest_wait, ("share", 1, 1, 999, 999), 6, most=3)

    def test_most_comes_by_name_alone(self):
        with self.assertRaises(TypeError):
            greatest_wait(NONE, 2, 2)
        with self.assertRaises(TypeError):
            shows_greatest(NONE, 2, (0, (1,), ()), 2)


class TestShown(Case):

    def judged(self, rule, limit, thing, most):
        told = shows_greatest(rule, limit, thing, most=most)
        self.assertIs(told, model_shows(rule, limit, thing, most), thing)
        return told

    def test_any_order_and_any_run_that_sends_such(self):
        chance = random.Random(193)
        for rule, limit, most in ((NONE, 4, 2), (("late", 1, 2), 4, 2), (SHARE, 2, 2), (LATE, 5, 3)):
            wait, run, table = greatest_wait(rule, limit, most=most)
            for _ in range(5):
                turned = list(table)
                chance.shuffle(turned)
                self.tells(True, shows_greatest, rule, limit, (wait, run, tuple(turned)), most=most)
            found = 0
            for _ in range(300):
                other = tuple(chance.randint(0, most) for _ in range(chance.randint(0, 12)))
                found += self.judged(rule, limit, (wait, other, table), most)
            self.assertGreater(found, 0)

    def test_another_wait(self):
        wait, run, table = greatest_wait(NONE, 4)
        for other in range(-1, 9):
            for end in range(len(run) + 1):
                self.judged(NONE, 4, (other, run[:end], table), 2)
        for other in (True, False, None, "3", (3,), [3], FORTY, -FORTY, MOST_WAIT):
            self.tells(False, shows_greatest, NONE, 4, (other, run, table))
        self.tells(False, shows_greatest, NONE, 1, (False, (1,), (lane_of(),)))
        self.tells(True, shows_greatest, NONE, 1, (0, (1,), (lane_of(),)))
        self.tells(False, shows_greatest, NONE, 1, (-1, (0,), (lane_of(),)))
        self.tells(False, shows_greatest, NONE, 1, (-1, (), (lane_of(),)))

    def test_runs_of_1500_counts(self):
        wait, run, table = greatest_wait(LATE, 3)
        for many in (0, 1, 1400, 1500 - len(run)):
            self.tells(True, shows_greatest, LATE, 3, (wait, (0,) * many + run, table))
        self.tells(False, shows_greatest, LATE, 3, (wait, (0,) * (1501 - len(run)) + run, table))

    def test_runs_otherwise(self):
        wait, run, table = greatest_wait(NONE, 4)
        for bad in list(spoilt(run)) + [run + (0,), run + (2,), run[:-1], (), (3,) + run, (3, 3, 0, 0), list(run), None]:
            self.judged(NONE, 4, (wait, bad, table), 2)
        # Three come in a tick only where so many may.
        three = greatest_wait(NONE, 4, most=3)
        self.same(three[1], (2, 3, 0, 0, 0))
        self.tells(False, shows_greatest, NONE, 4, (three[0], three[1], table))
        self.tells(True, shows_greatest, NONE, 4, three, most=3)
        self.tells(False, shows_greatest, NONE, 4, (wait, run, table), most=3)

    def test_tables_otherwise(self):
        for rule, limit, most in ((NONE, 3, 2), (("late", 1, 2), 3, 2), (("share", 1, 1, 500, 0), 2, 2)):
            wait, run, table = greatest_wait(rule, limit, most=most)
            for at, lane in enumerate(table):
                self.tells(False, shows_greatest, rule, limit, (wait, run, table[:at] + table[at + 1:]), most=most)
                self.tells(False, shows_greatest, rule, limit, (wait, run, table + (lane,)), most=most)
                self.tells(False, shows_greatest, rule, limit, (wait, run, (lane,) + table), most=most)
            for bad in itertools.chain(spoilt(table), spoilt_deep(table[:4])):
                self.judged(rule, limit, (wait, run, bad), most)

    def test_lanes_that_no_run_comes_to(self):
        told = greatest_wait(NONE, 2)
        wait, run, table = told
        # What waited 0 goes out no later, and leads to no other lanes.
        self.tells(True, shows_greatest, NONE, 2, (wait, run, table + (lane_of(0),)))
        self.tells(True, shows_greatest, NONE, 2, (wait, run, (lane_of(0),) + table))
        self.tells(False, shows_greatest, NONE, 2, (wait, run, table + (lane_of(2),)))
        self.tells(False, shows_greatest, NONE, 2, (wait, run, table + (lane_of(1, 1),)))
        self.tells(False, shows_greatest, NONE, 2, (wait, run, table + (lane_of(0), lane_of(0))))
        chance = random.Random(197)
        for rule, limit, most in ((NONE, 3, 2), (("late", 2, 2), 3, 2), (("share", 1, 1, 500, 0), 2, 3)):
            wait, run, table = greatest_wait(rule, limit, most=most)
            found = 0
            for _ in range(400):
                memory = chance.choice(table)[2]
                waits = sorted([chance.randint(0, 3) for _ in range(chance.randint(0, limit))], reverse=True)
                found += self.judged(rule, limit, (wait, run, table + (lane_of(*waits, memory=memory),)), most)
            self.assertGreater(found, 0)

    def test_tables_of_more_than_1500_lanes(self):
        rule, limit, most = NOT_WIDE
        wait, run, table = greatest_wait(rule, limit, most=most)
        # Whatever an empty lane's share follows, it leads to lanes of the table alone.
        more = tuple((0, (), (0, 0, old, 0)) for old in range(10, 14))
        for many in range(5):
            due = len(table) + many <= 1500
            self.tells(due, shows_greatest, rule, limit, (wait, run, table + more[:many]), most=most)
            self.assertIs(model_shows(rule, limit, (wait, run, table + more[:many]), most), due)

    def test_things_of_all_kinds(self):
        wait, run, table = greatest_wait(NONE, 3)
        for thing in things():
            for bad in (thing, (thing, run, table), (wait, thing, table), (wait, run, thing), (wait, run, (thing,)),
                        (wait, run, table + (thing,))):
                self.assertIs(self.judged(NONE, 3, bad, 2), repr(bad) == repr((wait, run, table)))
        for bad in ((wait, run), (run, table), (wait, run, table, 0), [wait, run, table], (wait, table, run),
                    (run, wait, table), (wait, run, list(table)), (wait, list(run), table), ()):
            self.tells(False, shows_greatest, NONE, 3, bad)

    def test_the_judge_does_not_search(self):
        rule, limit, _ = WIDE
        for thing in things()[::5]:
            self.tells(False, shows_greatest, rule, limit, thing)


class TestRefusals(Case):

    def test_no_rule_goes_first(self):
        for rule in things() + [("late", 0, 1), ["none"], ("none", 0)]:
            if is_rule(rule):
                continue
            for limit in (6, 0, None):
                for lane in (lane_of(), None):
                    for many in (0, 4):
                        self.refuses(NoRule, small_done, rule, limit, lane, many)
                for run in ((), None):
                    self.refuses(NoRule, small_words, rule, limit, run)
                for most in (2, 0):
                    self.refuses(NoRule, greatest_wait, rule, limit, most=most)
                    self.refuses(NoRule, shows_greatest, rule, limit, None, most=most)

    def test_no_limit_goes_next(self):
        for limit in things() + [0, 7, -1]:
            if within(limit, 1, 6):
                continue
            for lane in (lane_of(), None):
                for many in (0, 4):
                    self.refuses(NoNumber, small_done, NONE, limit, lane, many)
            for run in ((), None):
                self.refuses(NoNumber, small_words, NONE, limit, run)
            for most in (2, 0):
                self.refuses(NoNumber, greatest_wait, NONE, limit, most=most)
                self.refuses(NoNumber, shows_greatest, NONE, limit, None, most=most)

    def test_no_lane_and_then_no_number(self):
        for many in things() + [-1, 4]:
            if not within(many, 0, 3):
                self.refuses(NoNumber, small_done, NONE, 6, lane_of(), many)
                self.refuses(NoLane, small_done, NONE, 6, None, many)

    def test_no_most(self):
        for most in things() + [0, 4, -1]:
            if not within(most, 1, 3):
                for rule, limit in ((NONE, 6), WIDE[:2]):
                    self.refuses(NoNumber, greatest_wait, rule, limit, most=most)
                    for thing in (None, (0, (1,), (lane_of(),)), []):
                        self.refuses(NoNumber, shows_greatest, rule, limit, thing, most=most)


if __name__ == "__main__":
    unittest.main()
