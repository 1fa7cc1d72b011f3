"""The share rule and its memory."""

import random
import unittest

from waitmark.errors import NoMemory, NoNumber, NoRule
from waitmark.rules.share import (is_share, is_share_memory, share_come, share_first, share_passed, share_renewed,
                                  share_struck)
from tests.things import FORTY, Case, spoilt, things, within

RULES = (("share", 5, 4, 20, 30), ("share", 1, 1, 0, 0), ("share", 99, 99, 999, 999), ("share", 10, 1, 3, 0),
         ("share", 10, 7, 0, 7))
NO_RULES = (("share", 0, 1, 1, 1), ("share", 100, 1, 1, 1), ("share", 1, 0, 1, 1), ("share", 1, 100, 1, 1),
            ("share", 1, 1, -1, 1), ("share", 1, 1, 1000, 1), ("share", 1, 1, 1, -1), ("share", 1, 1, 1, 1000),
            ("none",), ("late", 5, 40))
MOST_WAIT = 10 ** 6
FIRST = (0, 0, 0, 0)


def fits_rule(thing):
    return (type(thing) is tuple and len(thing) == 5 and type(thing[0]) is str and thing[0] == "share"
            and within(thing[1], 1, 99) and within(thing[2], 1, 99)
            and within(thing[3], 0, 999) and within(thing[4], 0, 999))


def fits_memory(period, thing):
    return (type(thing) is tuple and len(thing) == 4 and within(thing[0], 0, period - 1)
            and within(thing[1], 0, 1000) and within(thing[2], 0, 99) and within(thing[3], 0, 999))


def slow_renewed(rule, memory, wait):
    """Renewed, put down once more sentence by sentence."""
    _, mark, _, up, turn = rule
    phase, share, old, total = memory
    if phase != 0:
        return memory
    if wait > 99:
        wait = 99
    share = share + up * (wait - mark) + turn * (wait - old)
    if share < 0:
        share = 0
    if share > 1000:
        share = 1000
    return (phase, share, wait, total)


def some_memory(chance, rule):
    share = chance.choice((0, 1, 500, 999, 1000, chance.randint(0, 1000)))
    total = chance.choice((0, 1, 500, 999, chance.randint(0, 999)))
    return (chance.choice((0, chance.randrange(rule[2]))), share, chance.randint(0, 99), total)


class TestShareRule(Case):

    def test_at_the_bounds_and_beside_them(self):
        for number in (-FORTY, -2, -1, 0, 1, 2, 50, 98, 99, 100, 101, 998, 999, 1000, 1001, FORTY):
            self.tells(1 <= number <= 99, is_share, ("share", number, 4, 20, 30))
            self.tells(1 <= number <= 99, is_share, ("share", 5, number, 20, 30))
            self.tells(0 <= number <= 999, is_share, ("share", 5, 4, number, 30))
            self.tells(0 <= number <= 999, is_share, ("share", 5, 4, 20, number))

    def test_spoilt_in_each_part(self):
        for rule in RULES:
            self.tells(True, is_share, rule)
            for bad in spoilt(rule):
                self.tells(fits_rule(bad), is_share, bad)

    def test_rules_of_other_kinds_and_words(self):
        for bad in NO_RULES + (("Share", 5, 4, 2, 1), ("", 5, 4, 2, 1), ("late", 5, 4, 2, 1), (None, 5, 4, 2, 1),
                               ["share", 5, 4, 2, 1], ("share", 5, 4, 2), ("share", 5, 4, 2, 1, 0),
                               (("share",), 5, 4, 2, 1)):
            self.tells(False, is_share, bad)

    def test_things_of_all_kinds(self):
        for thing in things():
            self.tells(fits_rule(thing), is_share, thing)


class TestShareMemory(Case):

    def test_at_the_bounds_and_beside_them(self):
        for period in range(1, 100):
            rule = ("share", 5, period, 20, 30)
            for number in (-FORTY, -1, 0, 1, period - 2, period - 1, period, period + 1, 98, 99, 100, FORTY):
                self.tells(0 <= number < period, is_share_memory, rule, (number, 0, 0, 0))
        for number in (-FORTY, -1, 0, 1, 98, 99, 100, 101, 998, 999, 1000, 1001, FORTY):
            for rule in RULES:
                self.tells(0 <= number <= 1000, is_share_memory, rule, (0, number, 0, 0))
                self.tells(0 <= number <= 99, is_share_memory, rule, (0, 0, number, 0))
                self.tells(0 <= number <= 999, is_share_memory, rule, (0, 0, 0, number))

    def test_spoilt_in_each_part(self):
        for rule in RULES:
            for memory in (FIRST, (rule[2] - 1, 1000, 99, 999), (0, 5, 6, 7)):
                self.tells(True, is_share_memory, rule, memory)
                for bad in spoilt(memory):
                    self.tells(fits_memory(rule[2], bad), is_share_memory, rule, bad)

    def test_things_of_all_kinds(self):
        for rule in RULES:
            for thing in things():
                self.tells(fits_memory(rule[2], thing), is_share_memory, rule, thing)

    def test_the_first(self):
        for rule in RULES:
            self.tells(FIRST, share_first, rule)
            self.tells(True, is_share_memory, rule, share_first(rule))


class TestShareRenewed(Case):

    def test_by_the_mark_and_the_old_wait(self):
        rule = ("share", 5, 4, 20, 30)
        self.tells((0, 500, 5, 7), share_renewed, rule, (0, 500, 5, 7), 5)
        self.tells((0, 550, 6, 7), share_renewed, rule, (0, 500, 5, 7), 6)
        self.tells((0, 450, 4, 7), share_renewed, rule, (0, 500, 5, 7), 4)
        self.tells((0, 480, 4, 7), share_renewed, rule, (0, 500, 4, 7), 4)
        self.tells((0, 530, 5, 0), share_renewed, rule, (0, 500, 4, 0), 5)
        self.tells((0, 250, 0, 999), share_renewed, rule, (0, 500, 5, 999), 0)
        self.tells((0, 50, 5, 0), share_renewed, rule, (0, 200, 10, 0), 5)

    def test_never_below_nothing_nor_above_a_thousand(self):
        rule = ("share", 5, 4, 20, 30)
        self.tells((0, 0, 0, 3), share_renewed, rule, FIRST[:3] + (3,), 0)
        self.tells((0, 0, 4, 3), share_renewed, rule, (0, 50, 5, 3), 4)
        self.tells((0, 1, 4, 3), share_renewed, rule, (0, 51, 5, 3), 4)
        self.tells((0, 0, 4, 3), share_renewed, rule, (0, 49, 5, 3), 4)
        self.tells((0, 1000, 6, 3), share_renewed, rule, (0, 950, 5, 3), 6)
        self.tells((0, 999, 6, 3), share_renewed, rule, (0, 949, 5, 3), 6)
        self.tells((0, 1000, 6, 3), share_renewed, rule, (0, 951, 5, 3), 6)
        self.tells((0, 1000, 99, 3), share_renewed, ("share", 1, 1, 999, 999), (0, 0, 0, 3), 99)
        self.tells((0, 0, 0, 3), share_renewed, ("share", 99, 1, 999, 999), (0, 1000, 99, 3), 0)

    def test_the_wait_counts_ninety_nine_at_most(self):
        rule = ("share", 90, 4, 20, 30)
        due = (0, 10 + 20 * 9 + 30 * 4, 99, 8)
        for wait in (99, 100, 101, 1000, MOST_WAIT - 1, MOST_WAIT):
            self.tells(due, share_renewed, rule, (0, 10, 95, 8), wait)
        self.tells((0, 10 + 20 * 8 + 30 * 3, 98, 8), share_renewed, rule, (0, 10, 95, 8), 98)

    def test_unchanged_but_at_phase_0(self):
        rule = ("share", 5, 4, 20, 30)
        for phase in (1, 2, 3):
            for wait in (0, 5, 50, 99, MOST_WAIT):
                self.tells((phase, 500, 9, 7), share_renewed, rule, (phase, 500, 9, 7), wait)

    def test_by_each_factor_alone(self):
        self.tells((0, 130, 20, 0), share_renewed, ("share", 10, 1, 3, 0), (0, 100, 50, 0), 20)
        self.tells((0, 310, 50, 0), share_renewed, ("share", 10, 1, 0, 7), (0, 100, 20, 0), 50)
        self.tells((0, 100, 20, 0), share_renewed, ("share", 10, 1, 0, 0), (0, 100, 50, 0), 20)

    def test_by_chance(self):
        chance = random.Random(31)
        for _ in range(4000):
            rule = ("share", chance.randint(1, 99), chance.randint(1, 99),
                    chance.choice((0, 1, 5, 999, chance.randint(0, 999))), chance.choice((0, 1, 9, 999)))
            memory = some_memory(chance, rule)
            wait = chance.choice((0, rule[1] - 1, rule[1], rule[1] + 1, memory[2], 98, 99, 100, 5000))
            self.tells(slow_renewed(rule, memory, wait), share_renewed, rule, memory, wait)
            self.tells(True, is_share_memory, rule, share_renewed(rule, memory, wait))


class TestShareCome(Case):

    def test_ordinary_ones(self):
        rule = ("share", 5, 4, 20, 30)
        self.tells(((0, 0, 0, 0), False), share_come, rule, FIRST)
        self.tells(((2, 300, 9, 300), False), share_come, rule, (2, 300, 9, 0))
        self.tells(((2, 300, 9, 999), False), share_come, rule, (2, 300, 9, 699))
        self.tells(((2, 300, 9, 0), True), share_come, rule, (2, 300, 9, 700))
        self.tells(((2, 300, 9, 1), True), share_come, rule, (2, 300, 9, 701))
        self.tells(((0, 1000, 0, 0), True), share_come, rule, (0, 1000, 0, 0))
        self.tells(((0, 1000, 0, 999), True), share_come, rule, (0, 1000, 0, 999))
        self.tells(((0, 0, 0, 999), False), share_come, rule, (0, 0, 0, 999))
        self.tells(((0, 1, 0, 0), True), share_come, rule, (0, 1, 0, 999))

    def test_just_so_many_of_those_behind_one_another(self):
        chance = random.Random(32)
        for _ in range(60):
            rule = chance.choice(RULES)
            memory = some_memory(chance, rule)
            first, shares, struck = memory[3], 0, 0
            for _ in range(200):
                if chance.randrange(5) == 0:
                    memory = share_renewed(rule, share_passed(rule, memory), chance.randint(0, 120))
                shares += memory[1]
                memory, hit = self.ask(share_come, rule, memory)
                struck += hit
                self.same(struck, (first + shares) // 1000)
                self.same(memory[3], (first + shares) % 1000)
                self.tells(True, is_share_memory, rule, memory)


class TestSharePassed(Case):

    def test_the_phase_goes_round(self):
        for period in range(1, 100):
            rule = ("share", 5, period, 20, 30)
            for phase in range(period):
                due = phase - 1 if phase > 0 else period - 1
                self.tells((due, 500, 9, 7), share_passed, rule, (phase, 500, 9, 7))

    def test_it_is_renewed_in_each_period_once(self):
        rule, memory, ticks = ("share", 5, 4, 20, 30), FIRST, []
        for tick in range(20):
            now = share_renewed(rule, memory, tick + 1)
            if now != memory:
                ticks.append(tick)
            memory = share_passed(rule, now)
        self.same(ticks, [0, 4, 8, 12, 16])


class TestShareStruck(Case):

    def test_ordinary_ones(self):
        rule = ("share", 5, 4, 20, 30)
        self.tells((), share_struck, rule, FIRST, 0)
        self.tells((), share_struck, rule, FIRST, 9999)
        self.tells((3, 6, 9), share_struck, rule, (0, 300, 0, 0), 10)
        self.tells((0, 3), share_struck, rule, (1, 300, 9, 999), 5)
        self.tells((0, 1, 2), share_struck, rule, (0, 1000, 0, 0), 3)
        self.tells((999, 1999), share_struck, rule, (0, 1, 0, 0), 2000)
        self.tells((999,), share_struck, rule, (0, 1, 0, 0), 1999)
        self.tells((), share_struck, rule, (0, 1, 0, 0), 999)
        self.tells(tuple(range(9999)), share_struck, rule, (0, 1000, 0, 0), 9999)

    def one_by_one(self, rule, memory, many):
        """Which are struck, and the memory behind them, as they come in one by one."""
        numbers = []
        for number in range(many):
            memory, struck = share_come(rule, memory)
            if struck:
                numbers.append(number)
        return tuple(numbers), memory

    def test_held_against_one_by_one(self):
        chance = random.Random(33)
        for many in (0, 1, 2, 3, 63, 64, 999, 1000, 1001, 9998, 9999):
            for _ in range(6):
                rule = chance.choice(RULES)
                memory = some_memory(chance, rule)
                told = self.ask(share_struck, rule, memory, many)
                self.same(told, self.one_by_one(rule, memory, many)[0])
                self.same(len(told), (memory[3] + memory[1] * many) // 1000)

    def test_each_number_by_the_sums(self):
        chance = random.Random(34)
        for _ in range(100):
            rule = chance.choice(RULES)
            _, share, _, total = memory = some_memory(chance, rule)
            due = [k for k in range(150) if (total + share * (k + 1)) // 1000 > (total + share * k) // 1000]
            self.tells(tuple(due), share_struck, rule, memory, 150)

    def test_in_one_piece_and_in_two(self):
        chance = random.Random(35)
        for _ in range(60):
            rule = chance.choice(RULES)
            memory, one, other = some_memory(chance, rule), chance.randint(0, 300), chance.randint(0, 300)
            first, between = self.one_by_one(rule, memory, one)
            second = tuple(one + number for number in self.ask(share_struck, rule, between, other))
            self.tells(first, share_struck, rule, memory, one)
            self.tells(first + second, share_struck, rule, memory, one + other)


class TestShareRefusals(Case):

    def test_what_is_no_share_rule(self):
        for rule in things() + list(NO_RULES) + list(spoilt(("share", 5, 4, 20, 30))):
            if not fits_rule(rule):
                for memory in (FIRST, (), None, (None, None, 0), rule):
                    self.refuses(NoRule, is_share_memory, rule, memory)
                    self.refuses(NoRule, share_come, rule, memory)
                    self.refuses(NoRule, share_passed, rule, memory)
                    for number in (0, -1, None):
                        self.refuses(NoRule, share_renewed, rule, memory, number)
                        self.refuses(NoRule, share_struck, rule, memory, number)
                self.refuses(NoRule, share_first, rule)

    def test_what_is_no_memory_of_it(self):
        for rule in RULES:
            bad = [(rule[2], 0, 0, 0), (0, 1001, 0, 0), (0, 0, 100, 0), (0, 0, 0, 1000), (None, None, 0)]
            for memory in things() + bad + list(spoilt(FIRST)):
                if not fits_memory(rule[2], memory):
                    self.refuses(NoMemory, share_come, rule, memory)
                    self.refuses(NoMemory, share_passed, rule, memory)
                    for number in (0, 5, MOST_WAIT + 1, 10000, -1, None, True, memory):
                        self.refuses(NoMemory, share_renewed, rule, memory, number)
                        self.refuses(NoMemory, share_struck, rule, memory, number)

    def test_what_is_no_wait(self):
        for rule in RULES:
            for wait in things():
                if not within(wait, 0, MOST_WAIT):
                    for memory in (FIRST, (rule[2] - 1, 1000, 99, 999)):
                        self.refuses(NoNumber, share_renewed, rule, memory, wait)

    def test_what_is_no_number_of_comers(self):
        for rule in RULES:
            for many in things():
                if not within(many, 0, 9999):
                    for memory in (FIRST, (rule[2] - 1, 1000, 99, 999)):
                        self.refuses(NoNumber, share_struck, rule, memory, many)


if __name__ == "__main__":
    unittest.main()
