"""Two rules on all small runs: alike or unlike, longer or never."""

import itertools
import random
import unittest

from waitmark.errors import NoNumber, NoRule, TooWide
from waitmark.lanes.rules import is_rule
from waitmark.small.pairs import alike, longer, shows_alike, shows_longer
from waitmark.small.runs import small_done, small_words
from tests.things import (FORTY, Case, fits_small, lane_of, model_search, model_small, small_first, some_small_rule,
                          spoilt, spoilt_deep, things, within)

NONE = ("none",)
LATE = ("late", 1, 1)
SHARE = ("share", 1, 1, 300, 0)
IDLE = ("share", 1, 3, 0, 0)
# A share that never rises strikes nothing: lanes alike, but for their memories. Of these just 1500 pairs.
JUST_1500 = (("share", 1, 38, 0, 0), ("share", 1, 5, 0, 0), 2)
# With one comer at most nothing ever waits: as many pairs as it takes till both periods end together, 19 * 79.
JUST_1501 = (("share", 1, 19, 0, 0), ("share", 1, 79, 0, 0), 2)
# Ahead of the told runs just 1500 pairs come, or more.
RUN_AT_1500 = (("late", 1, 9), ("share", 1, 6, 2, 50), 5)
RUN_AT_1502 = (("share", 3, 2, 20, 5), ("late", 3, 10), 4)
LONGER_AT_1500 = (("none",), ("share", 2, 1, 20, 100), 6, 1)
LONGER_AT_1502 = (("share", 3, 5, 5, 1), ("share", 2, 2, 500, 50), 4, 2)


class ModelJoint:
    """Two lanes that do the same counts, once more; over is None where their words are held against each other."""

    def __init__(self, one, other, limit, over=None, most=2):
        self.one, self.other, self.limit, self.over, self.most = one, other, limit, over, most
        self.words = ("alike", "unlike") if over is None else ("never", "longer")

    def first(self):
        return (small_first(self.one), small_first(self.other))

    def do(self, pair, many):
        one, words, _ = model_small(self.one, self.limit, pair[0], many)
        other, others, _ = model_small(self.other, self.limit, pair[1], many)
        more = words != others if self.over is None else len(one[1]) > len(other[1]) + self.over
        return (one, other), more

    def told(self):
        """What is told, or None where it is too wide."""
        found = model_search(self.first(), self.do, self.most, lambda more: more)
        if found is None:
            return None
        rows, _, run = found
        return (self.words[0], tuple(rows)) if run is None else (self.words[1], run)

    def shows(self, thing):
        """What a judge lets by."""
        if type(thing) is not tuple or len(thing) != 2 or type(thing[1]) is not tuple or len(thing[1]) > 1500:
            return False
        word, shown = thing
        if word == self.words[1]:
            return all(within(many, 0, self.most) for many in shown) and self.ends(shown)
        return word == self.words[0] and all(self.fits(pair) for pair in shown) and self.closed(shown)

    def ends(self, run):
        pair, more = self.first(), False
        for many in run:
            pair, more = self.do(pair, many)
        return more

    def fits(self, pair):
        return (type(pair) is tuple and len(pair) == 2 and fits_small(self.one, self.limit, pair[0])
                and fits_small(self.other, self.limit, pair[1]))

    def closed(self, table):
        known = set(table)
        if len(known) != len(table) or self.first() not in known:
            return False
        ticks = [self.do(pair, many) for pair in table for many in range(self.most + 1)]
        return all(pair in known and not more for pair, more in ticks)


class Pairs(Case):
    """What is asked of two rules, by the words or by how much longer."""

    def tell(self, joint):
        if joint.over is None:
            return self.ask(alike, joint.one, joint.other, joint.limit, most=joint.most)
        return self.ask(longer, joint.one, joint.other, joint.limit, joint.over, most=joint.most)

    def judged(self, joint, thing, twice=True):
        judge = self.ask if twice else lambda function, *args, **named: function(*args, **named)
        if joint.over is None:
            told = judge(shows_alike, joint.one, joint.other, joint.limit, thing, most=joint.most)
        else:
            told = judge(shows_longer, joint.one, joint.other, joint.limit, joint.over, thing, most=joint.most)
        self.assertIs(told, joint.shows(thing))
        return told

    def too_wide(self, joint):
        if joint.over is None:
            self.refuses(TooWide, alike, joint.one, joint.other, joint.limit, most=joint.most)
        else:
            self.refuses(TooWide, longer, joint.one, joint.other, joint.limit, joint.over, most=joint.most)


def some_joints(chance):
    """Two rules of each two kinds, with each limit and each most; now and then a rule and itself."""
    kinds = ("none", "late", "share")
    for number, (one, other, limit, most) in enumerate(itertools.product(kinds, kinds, range(1, 7), range(1, 4))):
        rule = some_small_rule(chance, one)
        for over in (None, number % 6):
            same = one == other and chance.random() < 0.5
            yield ModelJoint(rule, rule if same else some_small_rule(chance, other), limit, over, most)


class TestTold(Pairs):

    def test_a_rule_and_itself(self):
        self.tells(("alike", ((lane_of(), lane_of()), (lane_of(1), lane_of(1)))), alike, NONE, NONE, 2)
        self.tells(("never", ((lane_of(), lane_of()), (lane_of(1), lane_of(1)))), longer, NONE, NONE, 2, 0)
        for rule, limit in ((NONE, 6), (LATE, 6), (("late", 2, 2), 4), (SHARE, 2), (IDLE, 3)):
            told = self.ask(alike, rule, rule, limit)
            self.same(told[0], "alike")
            self.assertTrue(all(one == other for one, other in told[1]))
            for over in range(6):
                self.same(longer(rule, rule, limit, over), ("never", told[1]))

    def test_unlike_by_a_shortest_run(self):
        # Behind the first tick one waits. In the next one it is late and not alone, and its age begins; in the third
        # one the age is the span, and the head is struck.
        self.tells(("unlike", (2, 1, 1)), alike, NONE, LATE, 3)
        self.same(small_words(NONE, 3, (2, 1, 1)), (("come", "come", "send"), ("come", "send"), ("come", "send")))
        self.same(small_words(LATE, 3, (2, 1, 1)), (("come", "come", "send"), ("come", "send"), ("come", "drop", "send")))
        self.tells(("unlike", (2, 1, 1)), alike, LATE, NONE, 3)
        self.tells(("unlike", (2, 1, 1)), alike, LATE, ("late", 1, 2), 3, most=3)
        self.tells(("unlike", (2, 1, 1, 1)), alike, NONE, ("late", 1, 2), 3)

    def test_longer_by_more_than_over(self):
        self.tells(("longer", (2, 1, 1)), longer, NONE, LATE, 3, 0)
        self.same(self.ask(longer, LATE, NONE, 3, 0)[0], "never")
        for over in range(6):
            kind, shown = self.ask(longer, NONE, LATE, 6, over, most=3)
            if kind == "longer":
                lanes = [small_first(NONE), small_first(LATE)]
                for many in shown:
                    lanes = [small_done(rule, 6, lane, many)[0] for rule, lane in zip((NONE, LATE), lanes)]
                self.assertGreater(len(lanes[0][1]) - len(lanes[1][1]), over)

    def test_alike_though_their_memories_are_not(self):
        for one, other in ((NONE, IDLE), (IDLE, NONE), (IDLE, ("share", 9, 2, 5, 0)), (("late", 9, 9), NONE)):
            told = self.ask(alike, one, other, 2)
            self.same(told[0], "alike")
            self.assertTrue(all(one[1] == other[1] for one, other in told[1]))

    def test_with_one_comer_at_most_nothing_waits(self):
        for one, other in itertools.product((NONE, LATE, SHARE), repeat=2):
            for limit in range(1, 7):
                table = ((small_first(one), small_first(other)),)
                self.tells(("alike", table), alike, one, other, limit, most=1)
                self.tells(("never", table), longer, one, other, limit, 0, most=1)

    def test_most_is_two_where_it_is_left_out(self):
        for one, other, limit in ((NONE, LATE, 3), (LATE, ("late", 1, 2), 4), (NONE, SHARE, 3)):
            self.same(alike(one, other, limit), alike(one, other, limit, most=2))
            self.same(longer(one, other, limit, 1), longer(one, other, limit, 1, most=2))
            told = alike(one, other, limit)
            self.tells(True, shows_alike, one, other, limit, told)
            self.tells(True, shows_longer, one, other, limit, 1, longer(one, other, limit, 1))
        self.same([len(alike(NONE, NONE, 4, most=most)[1]) for most in (1, 2, 3)], [1, 13, 14])

    def test_most_comes_by_name_alone(self):
        for call in (lambda: alike(NONE, NONE, 2, 2), lambda: longer(NONE, NONE, 2, 0, 2),
                     lambda: shows_alike(NONE, NONE, 2, None, 2), lambda: shows_longer(NONE, NONE, 2, 0, None, 2)):
            with self.assertRaises(TypeError):
                call()

    def test_like_the_model(self):
        chance = random.Random(199)
        kinds = set()
        for joint in some_joints(chance):
            due = joint.told()
            if due is None:
                self.too_wide(joint)
                kinds.add((joint.over is None, None))
                continue
            told = self.tell(joint)
            self.same(told, due)
            self.assertTrue(self.judged(joint, told, twice=False))
            kinds.add((joint.over is None, due[0]))
        self.assertEqual(kinds, {(True, "alike"), (True, "unlike"), (True, None), (False, "never"), (False, "longer"),
                                 (False, None)})

    def test_a_shorter_or_a_lesser_run_does_not_show_it(self):
        for joint in (ModelJoint(NONE, LATE, 3), ModelJoint(NONE, SHARE, 3), ModelJoint(NONE, LATE, 4, 1, 3),
                      ModelJoint(LATE, ("late", 1, 2), 4, most=3)):
            _, run = self.tell(joint)
            for many in range(len(run) + 1):
                shown = [other for other in itertools.product(range(joint.most + 1), repeat=many) if joint.ends(other)]
                if many < len(run):
                    self.same(shown, [])
                else:
                    self.same(shown[0], run)

    def test_rules_turned_about(self):
        chance = random.Random(211)
        for _ in range(30):
            one, other, limit = some_small_rule(chance), some_small_rule(chance), chance.randint(1, 4)
            joint, turned = ModelJoint(one, other, limit), ModelJoint(other, one, limit)
            if joint.told() is None:
                self.too_wide(turned)
                continue
            word, shown = alike(one, other, limit)
            if word == "alike":
                shown = tuple(pair[::-1] for pair in shown)
            self.same(alike(other, one, limit), (word, shown))


class TestWide(Pairs):

    def test_tables_of_1500_pairs(self):
        one, other, limit = JUST_1500
        for most in (2, 3):
            for over in (None, 0, 5):
                joint = ModelJoint(one, other, limit, over, most)
                told = self.tell(joint)
                self.same(len(told[1]), 1500)
                self.same(told, joint.told())
                self.assertTrue(self.judged(joint, told))
                self.assertTrue(self.judged(joint, (told[0], told[1][::-1])))

    def test_more_pairs_are_too_wide(self):
        one, other, limit = JUST_1501
        for over in (None, 0, 5):
            joint = ModelJoint(one, other, limit, over, 1)
            self.same(joint.told(), None)
            self.too_wide(joint)
            table = tuple(((0, (), (-at % 19, 0, 0, 0)), (0, (), (-at % 79, 0, 0, 0))) for at in range(1501))
            # All that they come to is there, but it is more than is let by.
            self.assertTrue(joint.closed(table))
            self.assertFalse(self.judged(joint, (joint.words[0], table)))
        near = ("share", 1, 20, 0, 0), ("share", 1, 73, 0, 0)
        told = self.ask(alike, *near, 1, most=1)
        self.same((told[0], len(told[1])), ("alike", 1460))

    def test_runs_ahead_of_which_just_1500_pairs_come(self):
        joint = ModelJoint(*RUN_AT_1500)
        told = self.tell(joint)
        self.same(told, joint.told())
        self.same(told[0], "unlike")
        self.assertTrue(self.judged(joint, told))
        self.too_wide(ModelJoint(*RUN_AT_1502))
        one, other, limit, over = LONGER_AT_1500
        joint = ModelJoint(one, other, limit, over, 3)
        told = self.tell(joint)
        self.same(told, joint.told())
        self.same(told[0], "longer")
        one, other, limit, over = LONGER_AT_1502
        self.too_wide(ModelJoint(one, other, limit, over, 2))

    def test_judges_let_a_run_by_where_the_search_is_too_wide(self):
        joint = ModelJoint(*RUN_AT_1502)
        self.same(joint.told(), None)
        chance = random.Random(223)
        found = 0
        for _ in range(400):
            run = tuple(chance.choice((0, 1, 2, 2, 2)) for _ in range(chance.randint(8, 30)))
            found += self.judged(joint, ("unlike", run), twice=False)
        self.assertGreater(found, 0)


class TestShown(Pairs):

    JOINTS = (ModelJoint(NONE, NONE, 3), ModelJoint(IDLE, NONE, 2, None, 3), ModelJoint(LATE, LATE, 3, 0),
              ModelJoint(LATE, NONE, 3, 0), ModelJoint(NONE, LATE, 4, 5, 3))
    RUNS = (ModelJoint(NONE, LATE, 3), ModelJoint(NONE, LATE, 3, 0), ModelJoint(NONE, SHARE, 3, None, 3),
            ModelJoint(NONE, LATE, 5, 1, 3))

    def test_words_exchanged(self):
        for joint in self.JOINTS + self.RUNS:
            word, shown = self.tell(joint)
            self.assertTrue(self.judged(joint, (word, shown)))
            for other in ("alike", "unlike", "never", "longer", "", "Alike", None, True, 0, (word,), [word]):
                if other != word:
                    self.assertFalse(self.judged(joint, (other, shown)))
            for bad in ((shown, word), (word,), (word, shown, ()), [word, shown], (word, list(shown)), shown, word,
                        (word, shown) * 2, (word, dict(enumerate(shown)))):
                self.assertFalse(self.judged(joint, bad))

    def test_tables_in_any_order(self):
        chance = random.Random(227)
        for joint in self.JOINTS:
            word, table = self.tell(joint)
            for _ in range(5):
                turned = list(table)
                chance.shuffle(turned)
                self.assertTrue(self.judged(joint, (word, tuple(turned))))

    def test_a_pair_left_out_or_twice_or_elsewhere(self):
        for joint in self.JOINTS:
            word, table = self.tell(joint)
            for at, pair in enumerate(table):
                self.assertFalse(self.judged(joint, (word, table[:at] + table[at + 1:])))
                self.assertFalse(self.judged(joint, (word, table + (pair,))))
                self.assertTrue(self.judged(joint, (word, table[:at] + table[at + 1:] + (pair,))))
        self.assertFalse(self.judged(self.JOINTS[0], ("alike", ())))

    def test_tables_spoilt_at_any_depth(self):
        for joint in self.JOINTS:
            word, table = self.tell(joint)
            for bad in itertools.chain(spoilt(table), spoilt_deep(table[-3:])):
                self.judged(joint, (word, bad), twice=False)
            for bad in spoilt_deep(table[-1]):
                self.assertFalse(self.judged(joint, (word, table[:-1] + (bad,)), twice=False))

    def test_pairs_that_no_run_comes_to(self):
        joint = ModelJoint(NONE, NONE, 2)
        word, table = self.tell(joint)
        for waits in ((0,), (7,), (10 ** 6,)):
            self.assertTrue(self.judged(joint, (word, table + ((lane_of(*waits), lane_of(*waits)),))))
            self.assertTrue(self.judged(joint, (word, ((lane_of(*waits), lane_of(1)),) + table)))
        # Of these the words aren't alike, or they lead to what isn't there.
        self.assertFalse(self.judged(joint, (word, table + ((lane_of(1), lane_of()),))))
        self.assertFalse(self.judged(joint, (word, table + ((lane_of(1, 1), lane_of(1, 1)),))))
        self.assertFalse(self.judged(joint, (word, table + ((lane_of(2), lane_of(2)), (lane_of(2), lane_of(2))))))
        joint = ModelJoint(NONE, NONE, 2, 1)
        word, table = self.tell(joint)
        # Ahead of a tick it may be longer: behind it both are alike again.
        self.assertTrue(self.judged(joint, (word, table + ((lane_of(0), lane_of()), (lane_of(), lane_of(1)),
                                                           (lane_of(1), lane_of())))))
        self.assertFalse(self.judged(joint, (word, table + ((lane_of(0), lane_of()),))))

    def test_some_more_pairs_by_chance(self):
        chance = random.Random(229)
        found = 0
        for joint in self.JOINTS:
            word, table = self.tell(joint)
            for _ in range(120):
                pair = []
                for at in range(2):
                    waits = sorted([chance.randint(0, 3) for _ in range(chance.randint(0, 2))], reverse=True)
                    pair.append(lane_of(*waits, memory=chance.choice(table)[at][2]))
                found += self.judged(joint, (word, table + (tuple(pair),)), twice=False)
        self.assertGreater(found, 20)

    def test_any_run_in_whose_last_tick_it_shows(self):
        chance = random.Random(233)
        for joint in self.RUNS:
            word, run = self.tell(joint)
            found = 0
            for _ in range(250):
                other = tuple(chance.randint(0, joint.most) for _ in range(chance.randint(0, 14)))
                found += self.judged(joint, (word, other), twice=False)
            self.assertGreater(found, 0)
            self.assertTrue(self.judged(joint, (word, (0,) * 3 + run)))
            for bad in ((), run[:-1], run + (0,), run + (0,) * 20, run[::-1]):
                self.judged(joint, (word, bad))
            self.assertFalse(self.judged(joint, (word, ())))
            self.assertFalse(self.judged(joint, (word, run[:-1])))

    def test_a_run_may_show_it_ahead_of_its_last_tick_too(self):
        joint = self.RUNS[0]
        word, run = self.tell(joint)
        longer_ones = [run + more for many in range(1, 5) for more in itertools.product(range(3), repeat=many)]
        self.assertTrue(any(self.judged(joint, (word, other), twice=False) for other in longer_ones))
        self.assertFalse(all(self.judged(joint, (word, other), twice=False) for other in longer_ones))

    def test_truths_are_no_counts(self):
        for joint in self.RUNS:
            word, run = self.tell(joint)
            for at, many in enumerate(run):
                for bad in (bool(many), str(many), None, (many,), [many], -1, joint.most + 1, 4, FORTY, many + FORTY):
                    self.assertFalse(self.judged(joint, (word, run[:at] + (bad,) + run[at + 1:])))

    def test_runs_of_1500_counts(self):
        for joint in self.RUNS:
            word, run = self.tell(joint)
            for many in (1499, 1500):
                self.assertTrue(self.judged(joint, (word, (0,) * (many - len(run)) + run)))
            self.assertFalse(self.judged(joint, (word, (0,) * (1501 - len(run)) + run)))

    def test_never_both(self):
        chance = random.Random(239)
        for joint in list(some_joints(chance))[::7]:
            due = joint.told()
            if due is None or len(due[1]) > 300:
                continue
            runs = [tuple(chance.randint(0, joint.most) for _ in range(chance.randint(1, 20))) for _ in range(30)]
            by_run = any(self.judged(joint, (joint.words[1], run), twice=False) for run in runs + [due[1]]
                         if run is not due[1] or due[0] == joint.words[1])
            by_table = self.judged(joint, due) and due[0] == joint.words[0]
            self.assertFalse(by_run and by_table)
            self.assertTrue(by_run or by_table)

    def test_things_of_all_kinds(self):
        for joint in (self.JOINTS[0], self.RUNS[1]):
            word, shown = self.tell(joint)
            for thing in things():
                self.assertFalse(self.judged(joint, thing))
                self.assertFalse(self.judged(joint, (thing, shown)))
                for kind in joint.words:
                    for bad in (thing, (thing,), shown + (thing,), (thing,) + shown, shown + ((thing, thing),)):
                        self.judged(joint, (kind, bad), twice=False)


class TestRefusals(Pairs):

    def test_no_rule_goes_first(self):
        for rule in things() + [("late", 0, 1), ("share", 1, 1, 1000, 0), ["none"]]:
            if is_rule(rule):
                continue
            for other, limit, over, most in ((NONE, 6, 0, 2), (None, 6, 0, 2), (NONE, 0, 6, 4), (NONE, None, None, None)):
                for one, two in ((rule, other), (NONE, rule)):
                    self.refuses(NoRule, alike, one, two, limit, most=most)
                    self.refuses(NoRule, longer, one, two, limit, over, most=most)
                    self.refuses(NoRule, shows_alike, one, two, limit, None, most=most)
                    self.refuses(NoRule, shows_longer, one, two, limit, over, None, most=most)

    def test_no_limit_no_over_and_no_most(self):
        table = ("alike", ())
        for number in things() + [-1, 0, 4, 6, 7]:
            for one, other in ((NONE, LATE), JUST_1501[:2]):
                if not within(number, 1, 6):
                    self.refuses(NoNumber, alike, one, other, number)
                    self.refuses(NoNumber, longer, one, other, number, 0)
                    self.refuses(NoNumber, shows_alike, one, other, number, table)
                    self.refuses(NoNumber, shows_longer, one, other, number, 0, table)
                if not within(number, 0, 5):
                    self.refuses(NoNumber, longer, one, other, 2, number)
                    self.refuses(NoNumber, shows_longer, one, other, 2, number, table)
                if not within(number, 1, 3):
                    self.refuses(NoNumber, alike, one, other, 2, most=number)
                    self.refuses(NoNumber, longer, one, other, 2, 0, most=number)
                    self.refuses(NoNumber, shows_alike, one, other, 2, table, most=number)
                    self.refuses(NoNumber, shows_longer, one, other, 2, 0, table, most=number)


if __name__ == "__main__":
    unittest.main()
