"""Rules of any kind."""

import random
import unittest

from waitmark.errors import NoMemory, NoNumber, NoRule
from waitmark.lanes.rules import come_in, first_memory, is_memory, is_rule, looked, passed, renewed
from waitmark.rules.late import is_late, is_late_memory, late_first, late_looked, late_passed
from waitmark.rules.share import is_share, is_share_memory, share_come, share_first, share_passed, share_renewed
from tests.things import Case, spoilt, things, within

NONE = ("none",)
LATES = (("late", 1, 1), ("late", 5, 3), ("late", 99, 99))
SHARES = (("share", 1, 1, 0, 0), ("share", 5, 4, 20, 30), ("share", 99, 99, 999, 999))
RULES = (NONE,) + LATES + SHARES
MOST_WAIT = 10 ** 6
WAITS = (0, 1, 4, 5, 6, 98, 99, 100, MOST_WAIT)


def fits_rule(thing):
    return is_late(thing) or is_share(thing) or (type(thing) is tuple and repr(thing) == "('none',)")


def fits_memory(rule, thing):
    if is_late(rule):
        return is_late_memory(rule, thing)
    if is_share(rule):
        return is_share_memory(rule, thing)
    return type(thing) is tuple and len(thing) == 0


def late_memories(rule):
    span = rule[2]
    return ((None, None, 0), (None, None, span * span), (0, None, 1), (span, None, 0), (span, 0, 1), (span, span, 1))


def share_memories(rule):
    last = rule[2] - 1
    return ((0, 0, 0, 0), (0, 500, 5, 500), (last, 1000, 99, 999), (last, 300, 0, 700), (0, 1000, 99, 0))


class TestAnyRule(Case):

    def test_rules_of_each_kind(self):
        for rule in RULES:
            self.tells(True, is_rule, rule)
            for bad in spoilt(rule):
                self.tells(fits_rule(bad), is_rule, bad)

    def test_what_is_no_rule(self):
        for bad in (("late", 0, 1), ("late", 1, 100), ("share", 1, 1, 1000, 0), ("share", 1, 100, 0, 0), ["none"],
                    ("none", 0), ("none", None), "none", (), ("None",), (("none",),), None, {"none": 1}):
            self.tells(False, is_rule, bad)
        for thing in things():
            self.tells(fits_rule(thing), is_rule, thing)

    def test_memories_of_each_kind(self):
        self.tells(True, is_memory, NONE, ())
        for bad in ([], {}, None, "", 0, False, ((),), (None, None, 0), (0, 0, 0, 0), NONE):
            self.tells(False, is_memory, NONE, bad)
        for rule in LATES:
            for memory in late_memories(rule):
                self.tells(True, is_memory, rule, memory)
                self.tells(False, is_memory, NONE, memory)
                self.tells(False, is_memory, SHARES[0], memory)
        for rule in SHARES:
            for memory in share_memories(rule):
                self.tells(True, is_memory, rule, memory)
                self.tells(False, is_memory, NONE, memory)
                self.tells(False, is_memory, LATES[0], memory)

    def test_memories_spoilt_and_things_of_all_kinds(self):
        for rule in RULES:
            for thing in things() + list(spoilt(first_memory(rule))):
                self.tells(fits_memory(rule, thing), is_memory, rule, thing)

    def test_the_first_memory(self):
        self.tells((), first_memory, NONE)
        for rule in LATES:
            self.tells((None, None, 0), first_memory, rule)
            self.tells(late_first(rule), first_memory, rule)
        for rule in SHARES:
            self.tells((0, 0, 0, 0), first_memory, rule)
            self.tells(share_first(rule), first_memory, rule)


class TestWhatRulesDo(Case):

    def test_a_late_rule_looks(self):
        self.tells(((3, 3, 1), True), looked, ("late", 5, 3), (3, None, 0), 5)
        self.tells(((None, None, 0), False), looked, ("late", 5, 3), (3, None, 0), 5, alone=True)
        for rule in LATES:
            for memory in late_memories(rule):
                for wait in WAITS:
                    self.tells(late_looked(rule, memory, wait), looked, rule, memory, wait)
                    for alone in (False, True):
                        due = late_looked(rule, memory, wait, alone=alone)
                        self.tells(due, looked, rule, memory, wait, alone=alone)

    def test_a_late_rule_passes(self):
        self.tells((3, 2, 1), passed, ("late", 5, 3), (3, 3, 1))
        for rule in LATES:
            for memory in late_memories(rule):
                self.tells(late_passed(rule, memory), passed, rule, memory)

    def test_a_late_rule_does_nothing_else(self):
        for rule in LATES:
            for memory in late_memories(rule):
                self.tells((memory, False), come_in, rule, memory)
                for wait in WAITS:
                    self.tells(memory, renewed, rule, memory, wait)

    def test_a_share_rule_is_renewed_and_comers_come_in(self):
        self.tells((0, 550, 6, 7), renewed, ("share", 5, 4, 20, 30), (0, 500, 5, 7), 6)
        self.tells(((2, 300, 9, 0), True), come_in, ("share", 5, 4, 20, 30), (2, 300, 9, 700))
        for rule in SHARES:
            for memory in share_memories(rule):
                self.tells(share_come(rule, memory), come_in, rule, memory)
                for wait in WAITS:
                    self.tells(share_renewed(rule, memory, wait), renewed, rule, memory, wait)

    def test_a_share_rule_passes(self):
        self.tells((3, 500, 9, 7), passed, ("share", 5, 4, 20, 30), (0, 500, 9, 7))
        for rule in SHARES:
            for memory in share_memories(rule):
                self.tells(share_passed(rule, memory), passed, rule, memory)

    def test_a_share_rule_looks_at_no_head(self):
        for rule in SHARES:
            for memory in share_memories(rule):
                for wait in WAITS:
                    self.tells((memory, False), looked, rule, memory, wait)
                    self.tells((memory, False), looked, rule, memory, wait, alone=True)

    def test_none_does_nothing(self):
        self.tells(((), False), come_in, NONE, ())
        self.tells((), passed, NONE, ())
        for wait in WAITS:
            self.tells((), renewed, NONE, (), wait)
            self.tells(((), False), looked, NONE, (), wait)
            self.tells(((), False), looked, NONE, (), wait, alone=True)

    def test_by_chance_a_memory_stays_a_memory(self):
        chance = random.Random(41)
        for _ in range(60):
            rule = chance.choice(RULES)
            memory = first_memory(rule)
            for _ in range(60):
                memory = self.ask(renewed, rule, memory, chance.randint(0, 120))
                for _ in range(chance.randrange(4)):
                    memory, _ = self.ask(come_in, rule, memory)
                memory, _ = self.ask(looked, rule, memory, chance.randint(0, 120), alone=chance.randrange(9) == 0)
                memory = self.ask(passed, rule, memory)
                self.tells(True, is_memory, rule, memory)

    def test_whether_alone_comes_by_name_alone(self):
        with self.assertRaises(TypeError):
            looked(NONE, (), 5, True)


class TestRefusals(Case):

    def test_what_is_no_rule(self):
        for rule in things() + list(spoilt(("late", 5, 3))) + list(spoilt(SHARES[1])) + list(spoilt(NONE)):
            if not fits_rule(rule):
                for memory in ((), (None, None, 0), (0, 0, 0, 0), None, rule):
                    self.refuses(NoRule, is_memory, rule, memory)
                    self.refuses(NoRule, come_in, rule, memory)
                    self.refuses(NoRule, passed, rule, memory)
                    for wait in (0, -1, None):
                        self.refuses(NoRule, looked, rule, memory, wait)
                        self.refuses(NoRule, looked, rule, memory, wait, alone=True)
                        self.refuses(NoRule, renewed, rule, memory, wait)
                self.refuses(NoRule, first_memory, rule)

    def test_what_is_no_memory_of_it(self):
        for rule in RULES:
            for memory in things() + list(spoilt(first_memory(rule))):
                if not fits_memory(rule, memory):
                    self.refuses(NoMemory, come_in, rule, memory)
                    self.refuses(NoMemory, passed, rule, memory)
                    for wait in (0, MOST_WAIT, MOST_WAIT + 1, -1, None, True, memory):
                        self.refuses(NoMemory, looked, rule, memory, wait)
                        self.refuses(NoMemory, looked, rule, memory, wait, alone=True)
                        self.refuses(NoMemory, renewed, rule, memory, wait)

    def test_what_is_no_wait(self):
        for rule in RULES:
            memory = first_memory(rule)
            for wait in things():
                if not within(wait, 0, MOST_WAIT):
                    self.refuses(NoNumber, looked, rule, memory, wait)
                    self.refuses(NoNumber, looked, rule, memory, wait, alone=True)
                    self.refuses(NoNumber, renewed, rule, memory, wait)


if __name__ == "__main__":
    unittest.main()
