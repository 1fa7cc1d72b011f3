"""The late rule and its memory."""

import random
import unittest

from waitmark.errors import NoMemory, NoNumber, NoRule
from waitmark.rules.late import is_late, is_late_memory, late_first, late_looked, late_passed, late_ticks
from tests.things import FORTY, Case, spoilt, things, within

RULES = (("late", 1, 1), ("late", 5, 2), ("late", 5, 40), ("late", 99, 99), ("late", 1, 99), ("late", 99, 1))
NO_RULES = (("late", 0, 5), ("late", 100, 5), ("late", 5, 0), ("late", 5, 100), ("none",), ("share", 5, 4, 2, 1))
MOST_WAIT = 10 ** 6


def fits_rule(thing):
    return (type(thing) is tuple and len(thing) == 3 and type(thing[0]) is str and thing[0] == "late"
            and within(thing[1], 1, 99) and within(thing[2], 1, 99))


def fits_memory(span, thing):
    if type(thing) is not tuple or len(thing) != 3:
        return False
    age, left, count = thing
    fits_age = age is None or within(age, 0, span)
    fits_left = left is None or (within(left, 0, span) and within(age, span, span))
    return fits_age and fits_left and within(count, 0, span * span)


def slow_root(number):
    return max(side for side in range(100) if side * side <= number)


def slow_looked(rule, memory, wait, alone):
    """A look at a head, put down once more sentence by sentence."""
    _, mark, span = rule
    age, left, count = memory
    struck = False
    if wait < mark or alone:
        age, left = None, None
    else:
        if age is None:
            age = 0
        if age == span:
            if left is None:
                struck, count = True, count // 2 + 1
            elif left == 0:
                struck, count = True, min(count + 1, span * span)
            if struck:
                left = slow_root(span * span // count)
    return (age, left, count), struck


def slow_passed(rule, memory):
    age, left, count = memory
    if age is not None:
        age = min(age + 1, rule[2])
    if left is not None and left != 0:
        left = left - 1
    return age, left, count


def memories(span):
    """All memories of a small span."""
    for age in [None] + list(range(span + 1)):
        for left in [None] + (list(range(span + 1)) if age == span else []):
            for count in range(span * span + 1):
                yield (age, left, count)


class TestLateRule(Case):

    def test_at_the_bounds_and_beside_them(self):
        for number in (-FORTY, -1, 0, 1, 2, 50, 98, 99, 100, 101, FORTY):
            self.tells(1 <= number <= 99, is_late, ("late", number, 40))
            self.tells(1 <= number <= 99, is_late, ("late", 5, number))

    def test_spoilt_in_each_part(self):
        for rule in RULES:
            self.tells(True, is_late, rule)
            for bad in spoilt(rule):
                self.tells(fits_rule(bad), is_late, bad)

    def test_rules_of_other_kinds_and_words(self):
        for bad in NO_RULES + (("Late", 5, 40), ("late ", 5, 40), ("", 5, 40), ("share", 5, 40), (None, 5, 40),
                               (("late",), 5, 40), ("none", 5, 40), ["late", 5, 40], ("late", 5, 40, 0)):
            self.tells(False, is_late, bad)

    def test_things_of_all_kinds(self):
        for thing in things():
            self.tells(fits_rule(thing), is_late, thing)


class TestLateMemory(Case):

    def test_all_small_ones_and_those_beside_them(self):
        for span in (1, 2, 3):
            rule = ("late", 7, span)
            for age in [None] + list(range(-1, span + 2)):
                for left in [None] + list(range(-1, span + 2)):
                    for count in range(-1, span * span + 3):
                        memory = (age, left, count)
                        self.tells(fits_memory(span, memory), is_late_memory, rule, memory)

    def test_at_the_bounds_of_each_span(self):
        for span in range(1, 100):
            rule, square = ("late", 5, span), span * span
            for memory in ((None, None, 0), (None, None, square), (0, None, square), (span, None, 0),
                           (span, 0, 0), (span, span, square), (span - 1, None, 1)):
                self.tells(True, is_late_memory, rule, memory)
            for memory in ((None, None, -1), (None, None, square + 1), (span + 1, None, 0), (-1, None, 0),
                           (span, span + 1, 0), (span, -1, 0), (span - 1, 0, 0), (None, 0, 0), (span - 1, span, 1)):
                self.tells(False, is_late_memory, rule, memory)

    def test_spoilt_in_each_part(self):
        for rule in RULES:
            span = rule[2]
            for memory in ((None, None, 0), (0, None, 1), (span, None, 1), (span, 0, 1), (span, span, span * span)):
                self.tells(True, is_late_memory, rule, memory)
                for bad in spoilt(memory):
                    self.tells(fits_memory(span, bad), is_late_memory, rule, bad)

    def test_truths_are_no_numbers(self):
        for memory in ((True, None, 0), (False, None, 0), (1, True, 0), (1, False, 0), (None, None, False),
                       (None, None, True), (1, 0, True), (True, 0, 0), (True, True, True)):
            self.tells(False, is_late_memory, ("late", 5, 1), memory)

    def test_things_of_all_kinds(self):
        for rule in RULES:
            for thing in things():
                self.tells(fits_memory(rule[2], thing), is_late_memory, rule, thing)

    def test_the_first(self):
        for rule in RULES:
            self.tells((None, None, 0), late_first, rule)
            self.tells(True, is_late_memory, rule, late_first(rule))


class TestLateLooked(Case):

    def test_below_the_mark_nothing_is_kept_but_the_count(self):
        rule = ("late", 5, 3)
        for memory in ((None, None, 0), (0, None, 2), (3, None, 4), (3, 0, 9), (3, 2, 7)):
            for wait in (0, 1, 4):
                for alone in (False, True):
                    self.tells(((None, None, memory[2]), False), late_looked, rule, memory, wait, alone=alone)

    def test_alone_nothing_is_kept_but_the_count(self):
        rule = ("late", 5, 3)
        for memory in ((None, None, 0), (0, None, 2), (3, None, 4), (3, 0, 9), (3, 2, 7)):
            for wait in (4, 5, 6, MOST_WAIT):
                self.tells(((None, None, memory[2]), False), late_looked, rule, memory, wait, alone=True)

    def test_just_at_the_mark_it_ages(self):
        for wait in (5, 6, MOST_WAIT):
            self.tells(((0, None, 3), False), late_looked, ("late", 5, 3), (None, None, 3), wait)
            self.tells(((2, None, 3), False), late_looked, ("late", 5, 3), (2, None, 3), wait, alone=False)
        self.tells(((None, None, 3), False), late_looked, ("late", 5, 3), (None, None, 3), 4)

    def test_the_strike_at_the_span(self):
        rule = ("late", 5, 40)
        self.tells(((39, None, 0), False), late_looked, rule, (39, None, 0), 9)
        self.tells(((40, 40, 1), True), late_looked, rule, (40, None, 0), 9)
        self.tells(((40, 40, 1), True), late_looked, rule, (40, None, 0), 5, alone=False)
        self.tells(((40, 40, 1), True), late_looked, rule, (40, None, 1), 9)
        self.tells(((40, 28, 2), True), late_looked, rule, (40, None, 2), 9)
        self.tells(((40, 28, 2), True), late_looked, rule, (40, None, 3), 9)
        self.tells(((40, 23, 3), True), late_looked, rule, (40, None, 4), 9)
        self.tells(((40, 1, 801), True), late_looked, rule, (40, None, 1600), 9)

    def test_the_strikes_behind_it(self):
        rule = ("late", 5, 40)
        self.tells(((40, 28, 2), True), late_looked, rule, (40, 0, 1), 9)
        self.tells(((40, 23, 3), True), late_looked, rule, (40, 0, 2), 9)
        self.tells(((40, 1, 2), False), late_looked, rule, (40, 1, 2), 9)
        self.tells(((40, 40, 1600), False), late_looked, rule, (40, 40, 1600), 9)
        self.tells(((40, 1, 1600), True), late_looked, rule, (40, 0, 1599), 9)
        self.tells(((40, 1, 1600), True), late_looked, rule, (40, 0, 1600), 9)
        self.tells(((40, 40, 1), True), late_looked, rule, (40, 0, 0), 9)

    def test_all_memories_of_small_spans(self):
        for rule in (("late", 1, 1), ("late", 2, 2), ("late", 3, 3), ("late", 99, 4)):
            mark = rule[1]
            for memory in memories(rule[2]):
                for wait in (0, mark - 1, mark, mark + 1, MOST_WAIT):
                    for alone in (False, True):
                        due = slow_looked(rule, memory, wait, alone)
                        self.tells(due, late_looked, rule, memory, wait, alone=alone)
                    self.tells(slow_looked(rule, memory, wait, False), late_looked, rule, memory, wait)

    def test_by_chance_what_is_told_is_a_memory(self):
        chance = random.Random(21)
        for _ in range(3000):
            span, mark = chance.randint(1, 99), chance.randint(1, 99)
            rule, age = ("late", mark, span), chance.choice((None, span, span, span, chance.randint(0, span)))
            left = chance.choice((None, 0, chance.randint(0, span))) if age == span else None
            memory = (age, left, chance.randint(0, span * span))
            wait, alone = chance.choice((mark - 1, mark, mark, mark + 1, 100)), chance.randrange(4) == 0
            self.tells(slow_looked(rule, memory, wait, alone), late_looked, rule, memory, wait, alone=alone)
            self.tells(True, is_late_memory, rule, late_looked(rule, memory, wait, alone=alone)[0])
            self.tells(slow_passed(rule, memory), late_passed, rule, memory)

    def test_whether_alone_comes_by_name_alone(self):
        with self.assertRaises(TypeError):
            late_looked(("late", 5, 3), (None, None, 0), 5, True)

    def test_a_calm_halves_the_count(self):
        rule, memory, strikes = ("late", 5, 3), (None, None, 0), []
        waits = [5] * 20 + [4] + [9] * 8
        for tick, wait in enumerate(waits):
            memory, struck = self.ask(late_looked, rule, memory, wait)
            if struck:
                strikes.append((tick, memory[2]))
            memory = self.ask(late_passed, rule, memory)
        # The gaps of span 3 behind counts 1, 2, 3 and on are 3, 2, 1 and 1.
        first = [(3, 1), (6, 2), (8, 3)] + [(tick, tick - 5) for tick in range(9, 15)]
        first = first + [(tick, 9) for tick in range(15, 20)]
        self.same(strikes, first + [(24, 5), (25, 6), (26, 7), (27, 8), (28, 9)])


class TestLatePassed(Case):

    def test_ordinary_ones(self):
        rule = ("late", 5, 3)
        for memory, due in (((None, None, 0), (None, None, 0)), ((0, None, 4), (1, None, 4)),
                            ((2, None, 4), (3, None, 4)), ((3, None, 4), (3, None, 4)), ((3, 0, 4), (3, 0, 4)),
                            ((3, 1, 9), (3, 0, 9)), ((3, 3, 1), (3, 2, 1)), ((None, None, 9), (None, None, 9))):
            self.tells(due, late_passed, rule, memory)

    def test_all_memories_of_small_spans(self):
        for span in (1, 2, 3, 4):
            rule = ("late", 9, span)
            for memory in memories(span):
                self.tells(slow_passed(rule, memory), late_passed, rule, memory)


class TestLateTicks(Case):

    def looked_at(self, rule, many):
        """The ticks of the first so many strikes of a head that is looked at in each tick."""
        memory, ticks, tick = late_first(rule), [], 0
        while len(ticks) < many:
            memory, struck = late_looked(rule, memory, rule[1])
            if struck:
                ticks.append(tick)
            memory = late_passed(rule, memory)
            tick += 1
        return tuple(ticks)

    def test_ordinary_ones(self):
        self.tells((), late_ticks, ("late", 5, 40), 0)
        self.tells((40,), late_ticks, ("late", 5, 40), 1)
        self.tells((40, 80, 108, 131, 151), late_ticks, ("late", 5, 40), 5)
        self.tells((1, 2, 3, 4), late_ticks, ("late", 5, 1), 4)
        self.tells((3, 6, 8, 9, 10, 11, 12, 13, 14, 15, 16), late_ticks, ("late", 5, 3), 11)

    def test_from_none_to_ninety_nine(self):
        for rule in (("late", 7, 40), ("late", 99, 99), ("late", 1, 5)):
            for many in range(100):
                self.tells(self.looked_at(rule, many), late_ticks, rule, many)

    def test_of_each_span(self):
        for span in range(1, 100):
            self.tells(self.looked_at(("late", 5, span), 99), late_ticks, ("late", 5, span), 99)

    def test_the_mark_changes_nothing(self):
        for mark in range(1, 100):
            self.tells(late_ticks(("late", 5, 6), 99), late_ticks, ("late", mark, 6), 99)


class TestLateRefusals(Case):

    def test_what_is_no_late_rule(self):
        for rule in things() + list(NO_RULES) + list(spoilt(("late", 5, 40))):
            if not fits_rule(rule):
                for memory in ((None, None, 0), (), None, rule):
                    self.refuses(NoRule, is_late_memory, rule, memory)
                    self.refuses(NoRule, late_passed, rule, memory)
                    for wait in (0, -1, None):
                        self.refuses(NoRule, late_looked, rule, memory, wait)
                        self.refuses(NoRule, late_looked, rule, memory, wait, alone=True)
                self.refuses(NoRule, late_first, rule)
                for many in (0, 99, 100, -1, True, None):
                    self.refuses(NoRule, late_ticks, rule, many)

    def test_what_is_no_memory_of_it(self):
        for rule in RULES:
            bad = [(rule[2] + 1, None, 0), (rule[2], rule[2] + 1, 0), (None, 0, 0), (None, None, rule[2] ** 2 + 1)]
            for memory in things() + bad + list(spoilt((None, None, 0))):
                if not fits_memory(rule[2], memory):
                    self.refuses(NoMemory, late_passed, rule, memory)
                    for wait in (0, 5, MOST_WAIT, MOST_WAIT + 1, -1, None, True, memory):
                        self.refuses(NoMemory, late_looked, rule, memory, wait)
                        self.refuses(NoMemory, late_looked, rule, memory, wait, alone=True)

    def test_what_is_no_wait(self):
        for rule in RULES:
            for wait in things():
                if not within(wait, 0, MOST_WAIT):
                    for memory in ((None, None, 0), (rule[2], 0, 1), (rule[2], None, 0)):
                        self.refuses(NoNumber, late_looked, rule, memory, wait)
                        self.refuses(NoNumber, late_looked, rule, memory, wait, alone=True)

    def test_what_is_no_number_of_strikes(self):
        for rule in RULES:
            for many in things():
                if not within(many, 0, 99):
                    self.refuses(NoNumber, late_ticks, rule, many)


if __name__ == "__main__":
    unittest.main()
