"""What holds over the whole program, where its parts meet."""

import random
import unittest

from waitmark.base.comers import units
from waitmark.desk.desk import Desk
from waitmark.desk.texts import comers_text, read_comers, read_streams, rows_text, streams_text
from waitmark.errors import TooLong, TooWide
from waitmark.line.journals import accounts, journal_of, waits
from waitmark.line.line import Line
from waitmark.line.spans import bound, most_apart
from waitmark.lanes.turns import first_standing
from waitmark.senders.rings import falls, ring_of, ring_units
from waitmark.senders.senders import first_state, ticked, walked
from waitmark.small.letin import least_depth, longest, over
from waitmark.small.pairs import alike, longer
from waitmark.small.runs import greatest_wait, small_words
from tests.things import Case, some_run, some_small_rule, some_streams, some_world


def some_counts(chance, most):
    return tuple(chance.choice((0, 1, 1, most, most, chance.randint(0, most))) for _ in range(chance.randint(1, 120)))


def as_run(counts):
    """Small counts as a run of a line: pieces of size 1 that may not be marked."""
    return tuple(((0, 1, False),) * many for many in counts)


def words_of(journal):
    return tuple(tuple(row[0] for row in rows) for rows in journal)


class TestSmallRunsBesideLines(Case):

    def test_lines_of_rules_that_are_alike(self):
        chance = random.Random(337)
        kinds = set()
        while kinds != {"alike", "unlike"}:
            one, other, limit = some_small_rule(chance), some_small_rule(chance), chance.randint(1, 4)
            if chance.random() < 0.5:
                other = ("share", 9, 1, 0, 0) if one == ("none",) else one
            try:
                word, shown = alike(one, other, limit)
            except TooWide:
                continue
            kinds.add(word)
            lines = [Line(((1, rule, limit),), rate=1) for rule in (one, other)]
            if word == "alike":
                run = as_run(some_counts(chance, 2))
                told = [words_of(line.run(run)) for line in lines]
                self.same(told[0], told[1])
            else:
                told = [words_of(line.run(as_run(shown))) for line in lines]
                self.same(told[0][:-1], told[1][:-1])
                self.assertNotEqual(told[0][-1], told[1][-1])

    def test_lines_that_get_longer_or_never_do(self):
        chance = random.Random(347)
        kinds = set()
        while kinds != {"never", "longer"}:
            one, other, limit = some_small_rule(chance), some_small_rule(chance), chance.randint(2, 4)
            over_by = chance.randint(0, 2)
            try:
                word, shown = longer(one, other, limit, over_by, most=3)
            except TooWide:
                continue
            kinds.add(word)
            lines = [Line(((1, rule, limit),), rate=1) for rule in (one, other)]
            run = as_run(shown if word == "longer" else some_counts(chance, 3))
            more = []
            for comers in run:
                for line in lines:
                    line.step(comers)
                more.append(len(lines[0]) - len(lines[1]) > over_by)
            self.same(any(more), word == "longer")
            self.same(more[-1], word == "longer")

    def test_nothing_in_a_line_waits_longer_than_the_greatest_wait(self):
        chance = random.Random(349)
        for _ in range(40):
            rule, limit = some_small_rule(chance), chance.randint(1, 5)
            try:
                wait, run, _ = greatest_wait(rule, limit)
            except TooWide:
                continue
            self.same(words_of(Line(((1, rule, limit),), rate=1).run(as_run(run))), small_words(rule, limit, run))
            journal = journal_of(((1, rule, limit),), 1, first_standing(((1, rule, limit),)), as_run(run))
            self.same(waits(journal, 0)[-1], wait)
            counts = some_counts(chance, 2)
            journal = Line(((1, rule, limit),), rate=1).run(as_run(counts))
            self.assertLessEqual(max(waits(journal, 0), default=0), wait)


class TestWorldsBesideLines(Case):

    def test_a_world_led_at_a_desk(self):
        chance = random.Random(353)
        for _ in range(10):
            world = some_world(chance)
            desk = Desk()
            desk.say(f"line {world[1]} {streams_text(world[0])}")
            state = first_state(world)
            for _ in range(40):
                state, comers, rows = ticked(world, state)
                self.same(read_comers(comers_text(comers)), comers)
                self.same(desk.say("step " + comers_text(comers)), rows_text(rows))
                self.same(desk.line().standing(), state[0])
            self.same(read_streams(streams_text(world[0])), world[0])

    def test_a_ring_for_ever(self):
        chance = random.Random(359)
        met = 0
        while met < 12:
            world = some_world(chance, most=4)
            try:
                lead, ring = ring_of(world)
            except TooLong:
                continue
            met += 1
            state = walked(world, lead)
            streams, rate, _ = world
            line = Line(streams, rate=rate, standing=state[0])
            for _ in range(3 * ring):
                state, comers, _ = ticked(world, state)
                line.step(comers)
            self.same(state, walked(world, lead))
            sent = [account[4] for account in accounts(streams, state[0], line.journal())]
            self.same(tuple(sent), tuple(3 * many for many in ring_units(world)))
            longest_wait = max(wait for number in range(len(streams)) for wait in waits(line.journal(), number))
            if 1 <= longest_wait < 99:
                self.same(falls(world, longest_wait)[0], "never")
                self.same(falls(world, longest_wait + 1)[0], "falls")

    def test_streams_of_a_ring_that_both_wait_are_no_further_apart_than_told(self):
        chance = random.Random(367)
        for _ in range(15):
            world = some_world(chance, chance.randint(2, 4))
            state, run = first_state(world), []
            for _ in range(80):
                state, comers, _ = ticked(world, state)
                run.append(comers)
            told = most_apart(world[0], world[1], first_standing(world[0]), tuple(run))
            if told is not None:
                self.assertLessEqual(told[0], bound(world[0], told[1], told[2]))


class TestLoadsBesideWaits(Case):

    def test_what_the_least_depth_lets_in_waits_no_longer(self):
        chance = random.Random(373)
        met = 0
        while met < 40:
            streams = some_streams(chance, chance.randint(1, 4))
            number, rate, gain = chance.randrange(len(streams)), chance.randint(1, 60), chance.randint(0, 9)
            run = some_run(chance, len(streams), 60, 6)
            load = tuple(units(comers, stream=number) for comers in run)
            depth, _ = least_depth(load, gain)
            if depth > 999:
                continue
            told = longest(streams, number, rate, (depth, gain))
            self.assertIsNone(over(load, (depth, gain)))
            if told is None:
                continue
            met += 1
            line = Line(streams, rate=rate)
            line.run(run)
            line.run(((),) * 200)
            self.assertLessEqual(max(waits(line.journal(), number), default=0), told[0])
            desk = Desk()
            desk.say(f"line {rate} {streams_text(streams)}")
            self.same(desk.say(f"longest {number} {depth} {gain}"), f"{told[0]} {told[1]}")


if __name__ == "__main__":
    unittest.main()
