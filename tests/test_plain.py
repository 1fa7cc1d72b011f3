"""The plain line: waits, units left, ticks behind the run, the longest wait."""

import random
import unittest

from waitmark.base import plain as module
from waitmark.base.comers import is_run
from waitmark.base.plain import plain_left, plain_longest, plain_more, plain_waits
from waitmark.errors import NoRate
from tests.things import FORTY, Case, things, within

ALL = (plain_waits, plain_left, plain_more, plain_longest)


def slow_plain(run, rate):
    """The plain line put down once more, by a row whose first one is taken out: (waits, left, more, longest)."""
    row, budget, rows, left, longest, tick = [], 0, [], [], 0, 0
    while tick < len(run) or row:
        for _, size, _ in run[tick] if tick < len(run) else ():
            row.append((tick, size))
        sent = []
        if row:
            budget = budget + rate
        while row and row[0][1] <= budget:
            came, size = row.pop(0)
            budget = budget - size
            sent.append(tick - came)
        if not row:
            budget = 0
        longest = max([longest] + sent)
        rows.append(tuple(sent))
        left.append(sum(size for _, size in row))
        tick = tick + 1
    ticks = len(run)
    return tuple(rows[:ticks]), tuple(left[:ticks]), len(rows) - ticks, longest


def of_sizes(*ticks):
    """A run of these sizes, of streams and truths in turn."""
    count, run = 0, []
    for sizes in ticks:
        comers = []
        for size in sizes:
            comers.append((count % 8, size, count % 3 == 0))
            count += 1
        run.append(tuple(comers))
    return tuple(run)


def some_run(chance, ticks, most, often):
    """A run by chance, in which so many of ten ticks have comers."""
    run = []
    for _ in range(ticks):
        many = chance.randint(1, most) if chance.randrange(10) < often else 0
        run.append(tuple((chance.randrange(8), chance.randint(1, 9), chance.randrange(2) == 1) for _ in range(many)))
    return tuple(run)


class TestPlain(Case):

    def held(self, run, rate):
        """All four tell what the plain rows tell."""
        waits, left, more, longest = slow_plain(run, rate)
        self.tells(waits, plain_waits, run, rate=rate)
        self.tells(left, plain_left, run, rate=rate)
        self.tells(more, plain_more, run, rate=rate)
        self.tells(longest, plain_longest, run, rate=rate)

    def told(self, run, rate, waits, left, more, longest):
        """All four tell these, worked out by hand."""
        self.tells(waits, plain_waits, run, rate=rate)
        self.tells(left, plain_left, run, rate=rate)
        self.tells(more, plain_more, run, rate=rate)
        self.tells(longest, plain_longest, run, rate=rate)
        self.held(run, rate)

    def test_the_rate_left_out(self):
        self.same(module.RATE, 9)
        for run in ((), of_sizes([9, 9, 9]), of_sizes([5, 9, 3, 8], [], [1, 1, 1])):
            for function in ALL:
                self.tells(function(run, rate=9), function, run)

    def test_no_ticks(self):
        for rate in (1, 9, 99):
            self.told((), rate, (), (), 0, 0)

    def test_empty_ticks(self):
        for rate in (1, 9, 99):
            for ticks in (1, 2, 400):
                self.told(((),) * ticks, rate, ((),) * ticks, (0,) * ticks, 0, 0)

    def test_one_comer_waits_for_its_budget(self):
        self.told(of_sizes([9]), 9, ((0,),), (0,), 0, 0)
        self.told(of_sizes([9]), 8, ((),), (9,), 1, 1)
        self.told(of_sizes([9]), 1, ((),), (9,), 8, 8)
        self.told(of_sizes([1]), 1, ((0,),), (0,), 0, 0)
        self.told(of_sizes([9], [], []), 3, ((), (), (2,)), (9, 9, 0), 0, 2)

    def test_a_burst(self):
        self.told(of_sizes([9, 9, 9]), 9, ((0,),), (18,), 2, 2)
        self.told(of_sizes([9, 9, 9], [], [], []), 9, ((0,), (1,), (2,), ()), (18, 9, 0, 0), 0, 2)
        self.told(of_sizes([9, 9, 9]), 99, ((0, 0, 0),), (0,), 0, 0)

    def test_the_first_one_holds_up_those_behind_it(self):
        self.told(of_sizes([9, 1, 1]), 5, ((),), (11,), 2, 2)
        self.told(of_sizes([2, 9, 1], [1]), 5, ((0,), ()), (10, 11), 1, 2)

    def test_the_budget_goes_on_where_something_waits(self):
        self.told(of_sizes([5, 9], []), 9, ((0,), (1,)), (9, 0), 0, 1)
        self.told(of_sizes([8, 9, 9], []), 9, ((0,), (1,)), (18, 9), 1, 2)
        self.told(of_sizes([8, 2, 8, 8], [], []), 9, ((0,), (1, 1), (2,)), (18, 8, 0), 0, 2)

    def test_the_budget_is_nothing_where_nothing_waits_any_more(self):
        self.told(of_sizes([1], [9, 8]), 9, ((0,), (0,)), (0, 8), 1, 1)
        self.told(of_sizes([], [], [9, 9]), 9, ((), (), (0,)), (0, 0, 9), 1, 1)
        self.told(of_sizes([1], [], [9, 9], []), 9, ((0,), (), (0,), (1,)), (0, 0, 9, 0), 0, 1)

    def test_by_sizes_alone(self):
        one = (((0, 9, True), (0, 3, True)), ((0, 4, True),))
        other = (((7, 9, False), (3, 3, True)), ((1, 4, False),))
        for rate in (1, 5, 9):
            for function in ALL:
                self.same(self.ask(function, one, rate=rate), function(other, rate=rate))
            self.held(one, rate)

    def test_all_small_runs(self):
        bursts = ((), (1,), (3,), (2, 3), (3, 1, 2))
        for one in bursts:
            for other in bursts:
                for third in bursts:
                    for rate in (1, 2, 3, 4):
                        self.held(of_sizes(one, other, third), rate)

    def test_bursts_behind_one_another(self):
        for rate in (1, 2, 7, 8, 9, 10, 50, 98, 99):
            self.held(of_sizes([9] * 20, [1, 5, 9] * 10, [3] * 64, [], [9] * 64, [2, 7]), rate)

    def test_single_great_ones_with_ticks_between(self):
        for rate in (1, 2, 4, 8, 9, 10, 99):
            for between in (0, 1, 3, 8, 9):
                self.held(of_sizes(*([[9]] + [[]] * between) * 12), rate)

    def test_by_chance(self):
        chance = random.Random(11)
        for _ in range(250):
            run = some_run(chance, chance.randrange(40), chance.choice((1, 2, 6)), chance.choice((2, 5, 9)))
            self.held(run, chance.choice((1, 2, 3, 5, 8, 9, 13, 40, 99)))

    def test_long_runs(self):
        chance = random.Random(12)
        for most, often, rate in ((3, 9, 9), (3, 9, 15), (20, 2, 9), (1, 9, 5), (64, 1, 99), (9, 9, 1)):
            self.held(some_run(chance, 400, most, often), rate)

    def test_the_greatest_run_by_the_least_rate(self):
        run = (((0, 9, True),) * 64,) * 400
        self.same(plain_more(run, rate=1), 230400 - 400)
        self.same(plain_longest(run, rate=1), 230400 - 400)
        waits, left = plain_waits(run, rate=1), plain_left(run, rate=1)
        self.same(waits, tuple((tick - tick // 9 // 64,) if tick % 9 == 8 else () for tick in range(400)))
        self.same(left, tuple(576 * (tick + 1) - (tick + 1) // 9 * 9 for tick in range(400)))
        self.same(plain_more(run), 25600 - 400)
        self.same(plain_more(run, rate=99), 1928)

    def test_what_is_no_run(self):
        for thing in things():
            if not is_run(8, thing):
                for function in ALL:
                    self.refuses_run(function, thing)
                    self.refuses_run(function, thing, rate=9)
                    self.refuses_run(function, thing, rate=0)
                    self.refuses_run(function, thing, rate=None)
        for bad in (((),) * 401, (((8, 1, True),),), ((), (), ((0, 10, True),)), (((0, 1, True),) * 65,),
                    [()], ([],), ((), ((0, 1, 1),))):
            for function in ALL:
                self.refuses_run(function, bad)
                self.refuses_run(function, bad, rate=100)

    def test_what_is_no_rate(self):
        for rate in things():
            if not within(rate, 1, 99):
                for function in ALL:
                    self.refuses(NoRate, function, (), rate=rate)
                    self.refuses(NoRate, function, of_sizes([1, 2]), rate=rate)
        for rate in (0, 100, -1, FORTY, True, False, None, "9"):
            for function in ALL:
                self.refuses(NoRate, function, ((),), rate=rate)

    def test_any_rate_from_1_to_99(self):
        run = of_sizes([9] * 30, [], [5, 4])
        for rate in range(1, 100):
            self.held(run, rate)

    def test_the_rate_comes_by_name_alone(self):
        for function in ALL:
            with self.assertRaises(TypeError):
                function((), 9)


if __name__ == "__main__":
    unittest.main()
