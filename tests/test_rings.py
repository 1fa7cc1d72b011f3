"""Rings of worlds, and what is told of them."""

import random
import unittest

from waitmark.errors import NoNumber, NoWorld, TooLong
from waitmark.line.line import Line
from waitmark.senders import rings as module
from waitmark.senders.rings import falls, ring_of, ring_units, shows_falls, shows_ring
from waitmark.senders.senders import first_state, is_world, ticked, walked
from tests.things import FORTY, Case, ModelRing, some_world, spoilt, spoilt_deep, things, within

NONE = ("none",)
PLAIN = (1, NONE, 99)
ONE = ((PLAIN,), 9, ((1, False, 5, 8),))
TWO = ((PLAIN, (2, ("late", 2, 3), 40)), 9, ((1, False, 5, 8), (9, True, 2, 4)))


def small(weight, rule, limit, rate, sender):
    return (((weight, rule, limit),), rate, (sender,))


# Worlds of one stream whose lead and ring together are just so many ticks.
JUST_400 = {
    small(1, NONE, 7, 2, (8, True, 17, 7)): (148, 252),
    small(3, NONE, 19, 20, (9, False, 3, 13)): (49, 351),
    small(4, NONE, 6, 1, (4, True, 5, 13)): (40, 360),
}
JUST_399 = {
    small(1, NONE, 17, 1, (3, True, 8, 13)): (282, 117),
    small(4, ("late", 9, 8), 5, 7, (5, True, 12, 15)): (189, 210),
}
JUST_401 = (small(4, NONE, 6, 1, (8, True, 20, 4)), small(2, ("late", 7, 5), 7, 11, (4, True, 1, 9)),
            small(3, NONE, 16, 6, (5, False, 1, 14)))


def some_rings(seed, many, kind=None):
    """Worlds with a ring, and their models."""
    chance = random.Random(seed)
    found = []
    while len(found) < many:
        world = some_world(chance, chance.choice((1, 1, 2, 3, 4)), kind, chance.choice((1, 2, 3, 5)))
        model = ModelRing(world)
        if model.told is not None:
            found.append((world, model))
    return found


class TestRings(Case):

    def test_the_most_ticks(self):
        self.same(module.MOST_TICKS, 400)

    def test_one_piece_at_a_time(self):
        # Sent at once, it is heard after its delay: of a window that never grows, a ring of just so many ticks.
        for delay in range(1, 21):
            world = small(1, NONE, 9, 9, (9, False, delay, 1))
            # Nothing is out ahead of the first tick, and never again.
            self.tells((1, delay), ring_of, world)
            self.tells((9,), ring_units, world)
            self.tells(("falls", 0), falls, world, 1)
            self.tells(True, shows_ring, world, (1, delay))

    def test_a_window_that_grows_to_its_most(self):
        world = small(1, NONE, 99, 99, (1, False, 1, 4))
        # Windows of 1, 2, 3, and of 4 from then on.
        self.tells((4, 1), ring_of, world)
        self.tells((4,), ring_units, world)

    def test_by_chance_like_the_model(self):
        for world, model in some_rings(113, 60):
            self.tells(model.told, ring_of, world)
            self.tells(model.units(len(world[0])), ring_units, world)
            longest = max(model.waits())
            for mark in {1, 2, 50, 99, max(1, min(99, longest)), min(99, longest + 1)}:
                self.tells(model.falls(mark), falls, world, mark)

    def test_where_both_together_are_at_the_most(self):
        for table in (JUST_399, JUST_400):
            for world, due in table.items():
                self.same(ModelRing(world).told, due)
                self.tells(due, ring_of, world)
                self.tells(True, shows_ring, world, due)
                model = ModelRing(world)
                self.tells(model.units(1), ring_units, world)
                for mark in (1, 5, 99):
                    self.tells(model.falls(mark), falls, world, mark)

    def test_where_both_together_are_one_more(self):
        for world in JUST_401:
            model = ModelRing(world, most=401)
            self.same(sum(model.told), 401)
            self.refuses(TooLong, ring_of, world)
            self.refuses(TooLong, ring_units, world)
            self.refuses(TooLong, shows_ring, world, model.told)
            for mark in (1, 99):
                self.refuses(TooLong, falls, world, mark)
                self.refuses(TooLong, shows_falls, world, mark, model.falls(mark))

    def test_just_those_of_more_than_400_are_too_long(self):
        chance = random.Random(127)
        seen = set()
        while seen != {True, False}:
            world = some_world(chance, 2, most=9)
            model = ModelRing(world)
            seen.add(model.told is None)
            if model.told is None:
                self.refuses(TooLong, ring_of, world)
            else:
                self.tells(model.told, ring_of, world)

    def test_from_the_lead_on_the_ticks_come_again_for_ever(self):
        for world, model in some_rings(131, 25):
            lead, ring = ring_of(world)
            state = walked(world, lead)
            self.same(walked(world, ring, state=state), state)
            self.same(walked(world, 400 - lead, state=state), walked(world, (400 - lead) % ring, state=state))
            states = model.states[:lead + ring]
            self.assertEqual(len(set(states)), len(states))

    def test_a_ring_in_a_line(self):
        for world, model in some_rings(137, 10):
            lead, ring = ring_of(world)
            line = Line(world[0], rate=world[1])
            state = first_state(world)
            for _ in range(lead + ring):
                state, comers, rows = ticked(world, state)
                self.same(line.step(comers), rows)
            self.same(line.standing(), walked(world, lead)[0])
            sent = [0] * len(world[0])
            for rows in line.journal()[lead:]:
                for word, number, size, _ in rows:
                    sent[number] += size * (word in ("send", "bell"))
            self.same(tuple(sent), ring_units(world))


class TestFalls(Case):

    def test_marks_at_the_longest_waits_and_beside(self):
        kinds = set()
        for world, model in some_rings(139, 60):
            lead, _ = model.told
            waits = model.waits()
            for longest in (max(waits), max(waits[lead:])):
                for mark in (longest - 1, longest, longest + 1):
                    if 1 <= mark <= 99:
                        told = self.ask(falls, world, mark)
                        self.same(told, model.falls(mark))
                        kinds.add((told[0], longest > max(waits[lead:]), told[1] > 0))
                        if mark > max(waits[lead:]):
                            self.same(told[0], "falls")
                            self.assertTrue(all(wait < mark for wait in waits[told[1]:]))
                            self.assertTrue(told[1] == 0 or waits[told[1] - 1] >= mark)
                        else:
                            self.same(told[0], "never")
                            self.assertTrue(told[1] >= lead and waits[told[1]] >= mark)
                            self.assertTrue(all(wait < mark for wait in waits[lead:told[1]]))
        self.assertIn(("falls", True, True), kinds)
        self.assertIn(("never", False, True), kinds)
        self.assertIn(("falls", False, False), kinds)

    def test_dropped_ones_are_not_sent_and_bells_are(self):
        for can in (False, True):
            seen = []
            for world, model in some_rings(149, 40, "late"):
                senders = tuple((size, can, delay, most) for size, _, delay, most in world[2])
                world = (world[0], world[1], senders)
                model = ModelRing(world)
                if model.told is None:
                    self.refuses(TooLong, falls, world, 1)
                    continue
                for mark in range(1, 12):
                    self.tells(model.falls(mark), falls, world, mark)
                seen.extend(row[0] for rows in model.rows for row in rows)
            self.same("bell" in seen, can)
            self.same("drop" in seen, not can)


class TestUnits(Case):

    def test_just_as_the_weights_where_both_wait_behind_each_tick(self):
        chance = random.Random(151)
        met = 0
        while met < 12:
            world = some_world(chance, chance.choice((2, 2, 3)), "none", chance.choice((2, 3, 4)))
            weights = [chance.randint(1, 4) for _ in world[0]]
            streams = tuple((weight, NONE, 99) for weight in weights)
            senders = tuple((size, can, 1, most) for size, can, _, most in world[2])
            world = (streams, chance.choice((1, 2, 3)), senders)
            if ModelRing(world).told is None:
                continue
            lead, ring = ring_of(world)
            state = walked(world, lead)
            both = set(range(len(streams)))
            for _ in range(ring):
                state = ticked(world, state)[0]
                both &= set(state[0][2])
            sent = self.ask(ring_units, world)
            for one in both:
                for other in both - {one}:
                    self.assertEqual(sent[one] * weights[other], sent[other] * weights[one])
                    met += 1


class TestJudges(Case):

    def test_rings_that_are_shown(self):
        for world, model in some_rings(157, 6):
            lead, ring = model.told
            self.tells(True, shows_ring, world, (lead, ring))
            for bad in list(spoilt((lead, ring))) + things() + [(lead, ring * 2), (lead + 1, ring), (lead - 1, ring),
                                                                (lead + ring, ring), (ring, lead), (lead, ring + 1)]:
                self.tells(repr(bad) == repr((lead, ring)), shows_ring, world, bad)

    def test_falls_that_are_shown(self):
        for world, model in some_rings(163, 3):
            for mark in (1, 3):
                due = model.falls(mark)
                self.tells(True, shows_falls, world, mark, due)
                word, tick = due
                other = "never" if word == "falls" else "falls"
                for bad in list(spoilt(due)) + things() + [(other, tick), (word, tick + 1), (word, tick - 1), [word, tick],
                                                           (tick, word), word, tick, due + due]:
                    self.tells(repr(bad) == repr(due), shows_falls, world, mark, bad)

    def test_truths_are_no_numbers(self):
        world = small(1, NONE, 9, 9, (9, False, 1, 1))
        self.tells((1, 1), ring_of, world)
        for bad in ((True, True), (1, True), (True, 1)):
            self.tells(False, shows_ring, world, bad)
        self.tells(False, shows_falls, world, 1, ("falls", False))
        self.tells(True, shows_falls, world, 1, ("falls", 0))


class TestRefusals(Case):

    def test_no_world_goes_first(self):
        for world in things() + list(spoilt_deep(ONE)) + list(spoilt(TWO)) + [first_state(ONE)]:
            if is_world(world):
                continue
            self.refuses(NoWorld, ring_of, world)
            self.refuses(NoWorld, ring_units, world)
            for thing in ((0, 5), None, []):
                self.refuses(NoWorld, shows_ring, world, thing)
                for mark in (1, 0):
                    self.refuses(NoWorld, shows_falls, world, mark, thing)
            for mark in (1, 0, None):
                self.refuses(NoWorld, falls, world, mark)

    def test_no_mark_goes_next_and_ahead_of_too_long(self):
        for world in (ONE, TWO) + JUST_401[:1]:
            for mark in things() + [0, 100, -1, FORTY]:
                if not within(mark, 1, 99):
                    self.refuses(NoNumber, falls, world, mark)
                    for thing in (("falls", 0), None):
                        self.refuses(NoNumber, shows_falls, world, mark, thing)

    def test_judges_are_too_long_of_anything(self):
        for world in JUST_401:
            for thing in things()[::3]:
                self.refuses(TooLong, shows_ring, world, thing)
                self.refuses(TooLong, shows_falls, world, 1, thing)


if __name__ == "__main__":
    unittest.main()
