"""Worlds, their states, and their ticks."""

import random
import unittest

from waitmark.errors import NoNumber, NoState, NoWorld
from waitmark.lanes.lanes import is_stream
from waitmark.lanes.turns import first_standing, is_standing
from waitmark.line.steps import stepped
from waitmark.senders import senders as module
from waitmark.senders.senders import first_state, is_state, is_world, ticked, walked
from tests.things import (FORTY, FRESH_SENDER, Case, ModelWorld, some_state, some_world, spoilt, spoilt_deep, things,
                          within)

NONE = ("none",)
LATE = ("late", 2, 3)
SHARE = ("share", 1, 2, 300, 40)
PLAIN = (1, NONE, 99)
ONE = ((PLAIN,), 9, ((1, False, 5, 8),))
TWO = ((PLAIN, (2, LATE, 40)), 9, ((1, False, 5, 8), (9, True, 2, 4)))
FOUR = (((1, NONE, 1), (9, LATE, 99), (3, SHARE, 7), (2, LATE, 16)), 99,
        ((1, True, 1, 1), (9, False, 20, 16), (5, True, 1, 16), (5, False, 20, 1)))
NUMBERS = (-FORTY, -1, 0, 1, 2, 8, 9, 10, 15, 16, 17, 19, 20, 21, 98, 99, 100, FORTY)


def fits_sender(thing):
    if type(thing) is not tuple or len(thing) != 4:
        return False
    size, can, delay, most = thing
    return within(size, 1, 9) and type(can) is bool and within(delay, 1, 20) and within(most, 1, 16)


def fits_world(thing):
    """What a world is, put down once more for the tests."""
    if type(thing) is not tuple or len(thing) != 3:
        return False
    streams, rate, senders = thing
    if type(streams) is not tuple or not 1 <= len(streams) <= 4 or not all(is_stream(stream) for stream in streams):
        return False
    return (within(rate, 1, 99) and type(senders) is tuple and len(senders) == len(streams)
            and all(fits_sender(sender) for sender in senders))


def fits_echoes(delay, thing):
    if type(thing) is not tuple:
        return False
    last = 0
    for echo in thing:
        if type(echo) is not tuple or len(echo) != 2 or not within(echo[0], last, delay - 1):
            return False
        if type(echo[1]) is not str or echo[1] not in ("ok", "hit"):
            return False
        last = echo[0]
    return True


def fits_state(world, thing):
    if type(thing) is not tuple or len(thing) != 2 or not is_standing(world[0], thing[0]):
        return False
    if type(thing[1]) is not tuple or len(thing[1]) != len(world[2]):
        return False
    for (size, can, delay, most), lane, state in zip(world[2], thing[0][3], thing[1]):
        if type(state) is not tuple or len(state) != 4:
            return False
        window, grown, shut, echoes = state
        if not within(window, 1, most) or not within(grown, 0, window - 1) or not within(shut, 0, most):
            return False
        if not fits_echoes(delay, echoes) or len(lane[1]) + len(echoes) > most:
            return False
        if any(piece[0] != size or piece[1] is not can for piece in lane[1]):
            return False
    return True


def alone(state, *, world=ONE, pieces=()):
    """A state of a world of one stream: its sender's state, and what waits."""
    ring = (0,) if pieces else ()
    return ((0, False, ring, ((0, pieces, first_standing(world[0])[3][0][2]),)), (state,))


class TestWorlds(Case):

    def test_ordinary_ones(self):
        for world in (ONE, TWO, FOUR, (TWO[0] * 2, 1, TWO[2] * 2), ((PLAIN,) * 3, 99, ONE[2] * 3)):
            self.tells(True, is_world, world)

    def test_one_to_four_streams_and_as_many_senders(self):
        for many in range(10):
            for count in range(10):
                due = many == count and 1 <= many <= 4
                self.tells(due, is_world, ((PLAIN,) * many, 9, ONE[2] * count))

    def test_each_number_at_its_bounds_and_beside(self):
        for number in NUMBERS:
            self.tells(1 <= number <= 99, is_world, ((PLAIN,), number, ONE[2]))
            self.tells(1 <= number <= 9, is_world, ((PLAIN,), 9, ((number, True, 1, 1),)))
            self.tells(1 <= number <= 20, is_world, ((PLAIN,), 9, ((1, True, number, 1),)))
            self.tells(1 <= number <= 16, is_world, ((PLAIN,), 9, ((1, True, 1, number),)))
            self.tells(1 <= number <= 9, is_world, (((number, NONE, 1),), 9, ONE[2]))
            self.tells(1 <= number <= 99, is_world, (((1, NONE, number),), 9, ONE[2]))

    def test_parts_turned_about(self):
        streams, rate, senders = TWO
        for bad in ((rate, streams, senders), (senders, rate, streams), (streams, senders, rate), (streams, senders),
                    TWO + (0,), (TWO,), list(TWO), (list(streams), rate, senders), (streams, rate, list(senders)),
                    (streams, rate, dict(enumerate(senders))), (streams, rate, ((False, 1, 5, 8), senders[1])),
                    (streams, rate, (senders[0], list(senders[1]))), (streams, (rate,), senders), ()):
            self.tells(False, is_world, bad)

    def test_spoilt_at_any_depth(self):
        for world in (ONE, TWO, FOUR):
            fit = 0
            for bad in spoilt_deep(world):
                told = is_world(bad)
                self.assertIs(told, fits_world(bad), bad)
                fit += told
            # Some that are otherwise are worlds all the same: a truth exchanged, a limit of 1.
            self.assertLess(fit, 40)

    def test_spoilt_senders_wherever_they_stand(self):
        for sender in ((1, True, 1, 1), (9, False, 20, 16)):
            for bad in spoilt(sender):
                for many in range(4):
                    for behind in range(4 - many):
                        world = ((PLAIN,) * (many + 1 + behind), 9, (sender,) * many + (bad,) + (sender,) * behind)
                        self.assertIs(is_world(world), fits_sender(bad), bad)

    def test_things_of_all_kinds(self):
        for thing in things():
            self.tells(False, is_world, thing)
            for world in (ONE, TWO):
                for at in range(3):
                    other = world[:at] + (thing,) + world[at + 1:]
                    self.tells(fits_world(other), is_world, other)
            other = ((PLAIN,), 9, (thing,))
            self.tells(fits_world(other), is_world, other)

    def test_by_chance(self):
        chance = random.Random(71)
        for _ in range(100):
            self.tells(True, is_world, some_world(chance))


class TestStates(Case):

    def test_the_first(self):
        for world in (ONE, TWO, FOUR):
            due = (first_standing(world[0]), (FRESH_SENDER,) * len(world[0]))
            self.tells(due, first_state, world)
            self.tells(True, is_state, world, due)

    def test_windows_grown_and_shut(self):
        for most in (1, 2, 7, 16):
            world = ((PLAIN,), 9, ((1, False, 5, most),))
            for window in range(-1, 19):
                for grown in range(-1, 19):
                    due = 1 <= window <= most and 0 <= grown < window
                    self.tells(due, is_state, world, alone((window, grown, 0, ())))
            for shut in NUMBERS:
                self.tells(0 <= shut <= most, is_state, world, alone((1, 0, shut, ())))
        for bad in (True, False, None, "1", (1,), [1], FORTY, -FORTY):
            self.tells(False, is_state, ONE, alone((bad, 0, 0, ())))
            self.tells(False, is_state, ONE, alone((2, bad, 0, ())))
            self.tells(False, is_state, ONE, alone((2, 0, bad, ())))

    def test_echoes(self):
        for delay in (1, 2, 5, 20):
            world = ((PLAIN,), 9, ((1, False, delay, 8),))
            for left in range(-1, 22):
                for word in ("ok", "hit"):
                    self.tells(0 <= left < delay, is_state, world, alone((1, 0, 0, ((left, word),))))
                    self.tells(0 <= left < delay, is_state, world, alone((1, 0, 0, ((0, "ok"), (left, word)))))
        for lefts in ((0, 0, 1, 1, 4), (4, 4, 4), (0, 1, 0), (1, 0), (4, 3), (0, 4, 3, 4), (2, 2, 1)):
            echoes = tuple((left, "hit") for left in lefts)
            self.tells(list(lefts) == sorted(lefts), is_state, ONE, alone((1, 0, 0, echoes)))
        for word in ("send", "bell", "OK", "", " ok", "ok ", None, 0, True, ("ok",), ["ok"], {}, "hits"):
            self.tells(False, is_state, ONE, alone((1, 0, 0, ((0, word),))))
        for bad in ([], [(0, "ok")], ([0, "ok"],), ((0,),), ((0, "ok", 0),), (("ok", 0),), ((True, "ok"),), "", None,
                    ((0, "ok"), ()), ("ok",), (0,), {}, {0: "ok"}, ((0, "ok"), None), (("0", "ok"),)):
            self.tells(False, is_state, ONE, alone((1, 0, 0, bad)))

    def test_most_are_out_at_most(self):
        for most in (1, 2, 8, 16):
            world = ((PLAIN,), 9, ((3, True, 5, most),))
            for many in range(18):
                for count in range(18):
                    told = alone((1, 0, 0, ((2, "ok"),) * count), pieces=((3, True, False, 0),) * many)
                    self.assertIs(is_state(world, told), many + count <= most)

    def test_pieces_are_of_their_senders_size_and_can(self):
        world = ((PLAIN, PLAIN), 9, ((3, True, 5, 8), (4, False, 5, 8)))
        for size in range(1, 10):
            for can in (False, True):
                for marked in (False, can):
                    one = ((0, ((size, can, marked, 0),), ()), (0, (), ()))
                    state = ((0, False, (0,), one), (FRESH_SENDER,) * 2)
                    self.tells(size == 3 and can, is_state, world, state)
                    state = ((0, False, (1,), one[::-1]), (FRESH_SENDER,) * 2)
                    self.tells(size == 4 and not can, is_state, world, state)
                    both = ((0, ((3, True, False, 1), (size, can, marked, 0)), ()), (0, (), ()))
                    self.tells(size == 3 and can, is_state, world, ((0, False, (0,), both), (FRESH_SENDER,) * 2))

    def test_standings_and_states_of_these_streams(self):
        standing, states = first_state(TWO)
        for bad in ((standing, states[:1]), (standing, states * 2), (states, standing), (standing,), (standing, ()),
                    (standing, states, ()), [standing, states], (standing, list(states)), (list(standing), states),
                    (standing, (states[0], list(states[1]))), first_state(ONE), first_state(FOUR), standing, states,
                    (first_standing((PLAIN,)), states), (first_standing((PLAIN,) * 2), states),
                    (standing, dict(enumerate(states)))):
            self.tells(False, is_state, TWO, bad)

    def test_spoilt_at_any_depth(self):
        chance = random.Random(73)
        worlds = [ONE, TWO, some_world(chance, 1, "share", 4), some_world(chance, 2, "late", 3)]
        for world in worlds:
            for state in [first_state(world)] + [some_state(chance, world) for _ in range(3)]:
                self.tells(True, is_state, world, state)
                for bad in spoilt_deep(state):
                    self.assertIs(is_state(world, bad), fits_state(world, bad), bad)

    def test_things_of_all_kinds(self):
        for world in (ONE, TWO, FOUR):
            standing, states = first_state(world)
            for thing in things():
                self.tells(False, is_state, world, thing)
                self.tells(False, is_state, world, (thing, states))
                self.tells(False, is_state, world, (standing, thing))
                self.tells(False, is_state, world, (standing, states[1:] + (thing,)))
                for at in range(4):
                    own = FRESH_SENDER[:at] + (thing,) + FRESH_SENDER[at + 1:]
                    other = (standing, states[1:] + (own,))
                    self.tells(fits_state(world, other), is_state, world, other)

    def test_by_chance(self):
        chance = random.Random(79)
        for _ in range(150):
            world = some_world(chance)
            self.tells(True, is_state, world, some_state(chance, world))


class TestHearing(Case):

    def heard(self, world, state):
        """A sender's own part behind a tick, of a world of one stream."""
        behind, comers, rows = self.ask(ticked, world, state)
        return behind[1][0], comers, rows

    def test_what_comes_grows_the_window(self):
        # A window of three, all of them heard as ok, one after another: it is four then, and four are sent.
        own, comers, rows = self.heard(ONE, alone((3, 0, 0, ((0, "ok"),) * 3)))
        self.same(own, (4, 0, 0, ((4, "ok"),) * 4))
        self.same(comers, ((0, 1, False),) * 4)
        self.same(rows, (("come", 0, 1, 0),) * 4 + (("send", 0, 1, 0),) * 4)
        own, _, _ = self.heard(ONE, alone((3, 1, 0, ((0, "ok"),) * 2)))
        self.same(own[:3], (4, 0, 0))
        own, _, _ = self.heard(ONE, alone((3, 2, 0, ((0, "ok"),) * 2)))
        self.same(own[:3], (4, 1, 0))
        own, _, _ = self.heard(ONE, alone((3, 0, 0, ((0, "ok"),) * 2)))
        self.same(own[:3], (3, 2, 0))

    def test_from_one_the_window_grows_by_each(self):
        own, _, _ = self.heard(ONE, alone((1, 0, 0, ((0, "ok"),))))
        self.same(own[:3], (2, 0, 0))
        own, comers, _ = self.heard(ONE, alone((1, 0, 0, ((0, "ok"),) * 8)))
        # 1, then 2 more, then 3 more, and 2 of the next four.
        self.same(own[:3], (4, 2, 0))
        self.same(len(comers), 4)

    def test_a_window_is_most_at_most(self):
        world = ((PLAIN,), 99, ((1, False, 5, 3),))
        own, comers, _ = self.heard(world, alone((3, 2, 0, ((0, "ok"),)), world=world))
        self.same(own, (3, 0, 0, ((4, "ok"),) * 3))
        self.same(len(comers), 3)
        world = ((PLAIN,), 99, ((1, False, 5, 1),))
        own, comers, _ = self.heard(world, alone((1, 0, 0, ((0, "ok"),)), world=world))
        self.same(own, (1, 0, 0, ((4, "ok"),)))

    def test_a_hit_halves_the_window_and_shuts_it_for_those_out(self):
        for window, half in ((1, 1), (2, 1), (3, 1), (4, 2), (5, 2), (7, 3), (8, 4)):
            own, comers, rows = self.heard(ONE, alone((window, window - 1, 0, ((0, "hit"),))))
            self.same(own, (half, 0, 0, ((4, "ok"),) * half))
            self.same((len(comers), len(rows)), (half, 2 * half))
        own, comers, _ = self.heard(ONE, alone((8, 5, 0, ((0, "hit"), (1, "ok"), (2, "hit")))))
        self.same(own, (4, 0, 2, ((0, "ok"), (1, "hit"), (4, "ok"), (4, "ok"))))
        self.same(len(comers), 2)

    def test_out_are_those_in_the_line_too(self):
        world = ((PLAIN,), 1, ((9, True, 5, 8),))
        pieces = ((9, True, False, 3), (9, True, False, 3), (9, True, False, 0))
        own, comers, rows = self.heard(world, alone((8, 0, 0, ((0, "hit"), (0, "ok"), (3, "ok"))), world=world,
                                                    pieces=pieces))
        # Five are out as it hears the hit, three pieces and two echoes; the ok behind it is the first of them.
        self.same(own, (4, 0, 4, ((2, "ok"),)))
        self.same((comers, rows), ((), ()))

    def test_echoes_of_one_tick_count_as_out_till_they_are_heard(self):
        own, _, _ = self.heard(ONE, alone((8, 0, 0, ((0, "hit"),) * 5)))
        self.same(own[:3], (4, 0, 0))
        own, _, _ = self.heard(ONE, alone((8, 0, 0, ((0, "hit"),) * 5 + ((1, "hit"),) * 3)))
        self.same(own[:3], (4, 0, 3))
        own, _, _ = self.heard(ONE, alone((8, 3, 0, ((0, "ok"), (0, "hit"), (0, "ok"), (0, "ok")))))
        self.same(own[:3], (4, 0, 0))

    def test_while_it_is_shut_nothing_else_is_done(self):
        for word in ("ok", "hit"):
            for shut in range(1, 9):
                own, _, _ = self.heard(ONE, alone((4, 3, shut, ((0, word),))))
                self.same(own[:3], (4, 3, shut - 1))
        own, _, _ = self.heard(ONE, alone((4, 3, 2, ((0, "hit"), (0, "hit"), (0, "ok")))))
        self.same(own[:3], (5, 0, 0))
        own, _, _ = self.heard(ONE, alone((4, 3, 2, ((0, "ok"), (0, "ok"), (0, "hit"), (3, "ok")))))
        self.same(own[:3], (2, 0, 1))

    def test_a_shut_sender_sends_all_the_same(self):
        own, comers, _ = self.heard(ONE, alone((4, 0, 7, ())))
        self.same(own[:3], (4, 0, 7))
        self.same(len(comers), 4)

    def test_echoes_that_are_not_due_come_nearer(self):
        own, comers, _ = self.heard(ONE, alone((4, 0, 0, ((1, "ok"), (1, "hit"), (4, "ok"), (4, "hit")))))
        self.same(own, (4, 0, 0, ((0, "ok"), (0, "hit"), (3, "ok"), (3, "hit"))))
        self.same(comers, ())

    def test_where_more_are_out_than_the_window_nothing_is_sent(self):
        for many in range(9):
            own, comers, _ = self.heard(ONE, alone((3, 0, 0, ((2, "ok"),) * many)))
            self.same(len(comers), max(0, 3 - many))


class TestEchoes(Case):

    def test_send_brings_ok_and_bell_full_and_drop_bring_hits(self):
        world = (((1, ("late", 1, 1), 3),), 2, ((1, True, 3, 8),))
        pieces = ((1, True, False, 4), (1, True, True, 4), (1, True, False, 3))
        state = ((0, False, (0,), ((0, pieces, (1, None, 0)),)), ((5, 0, 0, ((1, "ok"),)),))
        behind, comers, rows = self.ask(ticked, world, state)
        self.same(comers, ((0, 1, True),))
        self.same(rows, (("full", 0, 1, 0), ("bell", 0, 1, 4), ("bell", 0, 1, 4)))
        self.same(behind[1], ((5, 0, 0, ((0, "ok"), (2, "hit"), (2, "hit"), (2, "hit"))),))
        world = (((1, ("late", 1, 1), 3),), 2, ((1, False, 3, 8),))
        pieces = tuple((1, False, False, wait) for wait in (4, 4, 3))
        state = ((0, False, (0,), ((0, pieces, (1, None, 0)),)), ((3, 0, 0, ()),))
        behind, comers, rows = self.ask(ticked, world, state)
        self.same(rows, (("drop", 0, 1, 4), ("send", 0, 1, 4), ("send", 0, 1, 3)))
        self.same(behind[1], ((3, 0, 0, ((2, "hit"), (2, "ok"), (2, "ok"))),))

    def test_dropped_as_they_come_they_bring_hits_and_marked_ones_wait(self):
        share = ("share", 1, 2, 0, 0)
        for can, word, left in ((False, "drop", 3), (True, "mark", 4)):
            world = (((1, share, 9),), 1, ((9, can, 3, 8),))
            piece = (9, can, False, 0)
            state = ((0, False, (0,), ((0, (piece,), (1, 500, 0, 500)),)), ((5, 0, 0, ()),))
            behind, comers, rows = self.ask(ticked, world, state)
            self.same(len(comers), 4)
            self.same([row[0] for row in rows], [word, "come", word, "come"])
            self.same(len(behind[0][3][0][1]), 1 + 4 - 2 * (not can))
            self.same(behind[1][0][3], () if can else ((2, "hit"), (2, "hit")))

    def test_echoes_come_to_their_own_sender_in_the_rows_order(self):
        world = (((1, NONE, 1), (2, NONE, 99)), 9, ((2, False, 4, 8), (1, True, 2, 8)))
        state = (first_standing(world[0]), ((3, 0, 0, ()), (2, 0, 0, ())))
        behind, comers, rows = self.ask(ticked, world, state)
        self.same(comers, ((0, 2, False),) * 3 + ((1, 1, True),) * 2)
        self.same([row[:2] for row in rows], [("come", 0), ("full", 0), ("full", 0), ("come", 1), ("come", 1),
                                             ("send", 0), ("send", 1), ("send", 1)])
        self.same(behind[1], ((3, 0, 0, ((3, "hit"), (3, "hit"), (3, "ok"))), (2, 0, 0, ((1, "ok"), (1, "ok")))))

    def test_what_is_sent_at_a_delay_of_one_is_heard_in_the_next_tick(self):
        world = ((PLAIN,), 99, ((1, False, 1, 16),))
        state = first_state(world)
        for many in list(range(1, 17)) + [16, 16]:
            state, comers, _ = self.ask(ticked, world, state)
            self.same((len(comers), state[1][0]), (many, (many, 0, 0, ((0, "ok"),) * many)))

    def test_four_windows_of_sixteen_with_nothing_out(self):
        world = ((PLAIN,) * 4, 99, ((9, True, 20, 16),) * 4)
        state = (first_standing(world[0]), ((16, 15, 16, ()),) * 4)
        behind, comers, rows = self.ask(ticked, world, state)
        self.same(comers, tuple((number, 9, True) for number in range(4) for _ in range(16)))
        self.same(len(rows), 64 + 11)
        self.same(sum(len(lane[1]) for lane in behind[0][3]), 53)
        self.same(sum(len(own[3]) for own in behind[1]), 11)
        self.tells(True, is_state, world, behind)


class TestTicks(Case):

    def test_by_chance_like_the_model(self):
        chance = random.Random(83)
        for _ in range(250):
            world = some_world(chance)
            state = some_state(chance, world)
            model = ModelWorld(world, state)
            for _ in range(3):
                due = model.tick()
                self.tells((model.state(),) + due, ticked, world, state)
                state = model.state()
                self.tells(True, is_state, world, state)

    def test_from_the_first_like_the_model(self):
        chance = random.Random(89)
        for _ in range(25):
            world = some_world(chance)
            model = ModelWorld(world)
            state = first_state(world)
            for _ in range(80):
                comers, rows = model.tick()
                state, told, more = ticked(world, state)
                self.same((state, told, more), (model.state(), comers, rows))

    def test_a_tick_of_a_world_is_a_step_of_its_line(self):
        chance = random.Random(97)
        for _ in range(100):
            world = some_world(chance)
            state = some_state(chance, world)
            behind, comers, rows = ticked(world, state)
            self.same((behind[0], rows), stepped(world[0], world[1], state[0], comers))

    def test_none_is_lost_and_none_is_twice(self):
        chance = random.Random(101)
        for _ in range(150):
            world = some_world(chance)
            state = some_state(chance, world)
            behind, comers, _ = ticked(world, state)
            for number in range(len(world[0])):
                ahead = len(state[0][3][number][1]) + len(state[1][number][3])
                heard = sum(left == 0 for left, _ in state[1][number][3])
                came = sum(comer[0] == number for comer in comers)
                after = len(behind[0][3][number][1]) + len(behind[1][number][3])
                self.assertEqual(after, ahead - heard + came)
                self.assertEqual(came, max(0, behind[1][number][0] - (ahead - heard)))


class TestWalks(Case):

    def test_none_one_and_many(self):
        chance = random.Random(103)
        for _ in range(12):
            world = some_world(chance)
            first = first_state(world)
            self.tells(first, walked, world, 0)
            self.tells(ticked(world, first)[0], walked, world, 1)
            model = ModelWorld(world)
            for _ in range(60):
                model.tick()
            self.tells(model.state(), walked, world, 60)
            state = some_state(chance, world)
            self.tells(state, walked, world, 0, state=state)
            self.tells(ticked(world, state)[0], walked, world, 1, state=state)

    def test_as_many_together(self):
        chance = random.Random(107)
        for _ in range(12):
            world = some_world(chance)
            one, other = chance.randint(0, 50), chance.randint(0, 50)
            for state in (None, some_state(chance, world)):
                between = walked(world, one, state=state)
                self.same(walked(world, other, state=between), walked(world, one + other, state=state))
            self.same(walked(world, one), walked(world, one, state=None))
            self.same(walked(world, one), walked(world, one, state=first_state(world)))

    def test_four_hundred_ticks_are_quick(self):
        for world in (ONE, TWO, FOUR, ((PLAIN,) * 4, 1, ((9, True, 20, 16),) * 4)):
            model = ModelWorld(world)
            for _ in range(400):
                model.tick()
            self.same(walked(world, 400), model.state())

    def test_the_state_comes_by_name_alone(self):
        with self.assertRaises(TypeError):
            walked(ONE, 1, first_state(ONE))


class TestRefusals(Case):

    def test_no_world_goes_first(self):
        standing, states = first_state(TWO)
        for world in things() + list(spoilt(TWO)) + list(spoilt(ONE)) + [(TWO[0], 0, TWO[2]), (TWO[0], 9, TWO[2][:1])]:
            if fits_world(world):
                continue
            self.refuses(NoWorld, first_state, world)
            for state in ((standing, states), None, 5, []):
                self.refuses(NoWorld, is_state, world, state)
                self.refuses(NoWorld, ticked, world, state)
                for many in (0, 401):
                    self.refuses(NoWorld, walked, world, many, state=state)
            self.refuses(NoWorld, walked, world, 1)

    def test_no_number_goes_next(self):
        for many in things() + [401, -1]:
            if not within(many, 0, 400):
                self.refuses(NoNumber, walked, TWO, many)
                for state in (None, first_state(TWO), first_state(ONE), 5):
                    self.refuses(NoNumber, walked, TWO, many, state=state)

    def test_no_state_of_this_world(self):
        chance = random.Random(109)
        bad = things() + list(spoilt_deep(first_state(TWO))) + list(spoilt_deep(some_state(chance, TWO)))
        for state in bad + [first_state(ONE), first_state(FOUR)]:
            if fits_state(TWO, state):
                continue
            self.refuses(NoState, ticked, TWO, state)
            if state is not None:
                self.refuses(NoState, walked, TWO, 0, state=state)
                self.refuses(NoState, walked, TWO, 1, state=state)

    def test_what_a_sender_keeps_at_first_is_only_read(self):
        self.same(module.FIRST, FRESH_SENDER)


if __name__ == "__main__":
    unittest.main()
