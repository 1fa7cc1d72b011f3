"""The reasons of strikes."""

import random
import unittest

from waitmark.base.comers import is_run
from waitmark.errors import NoNumber, NoRate, NoRun, NoStreams
from waitmark.lanes.turns import first_standing
from waitmark.line.journals import journal_of, strikes
from waitmark.line.reasons import reason_of, shows_reason
from tests.things import FORTY, Case, Model, some_run, some_streams, spoilt, things, within

LATE = ("late", 1, 2)
# Its share is 500 from the tick on in which the head waits for 2, and does not fall.
SHARE = ("share", 1, 1, 500, 0)
PLAIN = (1, ("none",), 9)
LATES = ((1, LATE, 99),)
MIXED = ((1, LATE, 99), (2, ("share", 1, 1, 90, 20), 9), (3, ("none",), 3), (4, ("late", 2, 1), 9))
CROWD = ((0, 9, False), (0, 9, True), (0, 9, True), (0, 9, False), (0, 9, True), (0, 9, True))


def strikes_of(streams, rate, run):
    """The model's strikes, and the journal."""
    model = Model(streams)
    journal = tuple(model.step(rate, comers) for comers in run)
    return model.reasons, journal


class TestReasons(Case):

    def test_late_by_hand(self):
        run = (CROWD,) + ((),) * 5
        journal = journal_of(LATES, 9, first_standing(LATES), run)
        self.same(journal[3], (("drop", 0, 9, 3), ("send", 0, 9, 3)))
        self.tells(("late", 1, 1), reason_of, LATES, 9, run, 3, 0)
        self.tells(True, shows_reason, LATES, 9, run, 3, 0, ("late", 1, 1))
        self.same(strikes(LATES, journal), ((3, 0, 0),))

    def test_a_second_late_time_begins_anew(self):
        run = ((CROWD,) + ((),) * 6) * 2
        journal = journal_of(LATES, 9, first_standing(LATES), run)
        self.same(strikes(LATES, journal), ((3, 0, 0), (10, 0, 0)))
        self.tells(("late", 1, 1), reason_of, LATES, 9, run, 3, 0)
        self.tells(("late", 8, 1), reason_of, LATES, 9, run, 10, 0)

    def test_strikes_of_one_late_time(self):
        run = (CROWD * 3,) + ((),) * 12
        journal = journal_of(LATES, 9, first_standing(LATES), run)
        found = strikes(LATES, journal)
        self.same([self.ask(reason_of, LATES, 9, run, tick, place) for tick, place, _ in found],
                  [("late", 1, min(count, 4)) for count in range(1, len(found) + 1)])
        self.assertGreater(len(found), 3)

    def test_a_late_time_is_ended_by_a_head_that_does_not_wait_so_long(self):
        # What comes later waits less: the age is gone at its look, and begins anew.
        streams, run = ((1, ("late", 3, 2), 99),), (CROWD,) + ((),) * 4 + (CROWD * 2,) + ((),) * 9
        reasons, journal = strikes_of(streams, 9, run)
        self.same(strikes(streams, journal), tuple((tick, place, 0) for tick, place in sorted(reasons)))
        self.assertGreater(len({reason[1] for _, reason in reasons.values()}), 1)
        for (tick, place), (_, reason) in reasons.items():
            self.tells(reason, reason_of, streams, 9, run, tick, place)

    def test_share_by_hand(self):
        streams = ((1, SHARE, 99),)
        two = ((0, 8, False), (0, 7, True))
        run = (((0, 9, False),) * 3, ()) + (two,) * 2 + ((),) * 6
        journal = journal_of(streams, 9, first_standing(streams), run)
        self.same(strikes(streams, journal), ((2, 1, 0), (3, 1, 0)))
        self.tells(("share", 500, 500), reason_of, streams, 9, run, 2, 1)
        self.tells(("share", 500, 500), reason_of, streams, 9, run, 3, 1)
        # The bells by which the marked ones go out are no strikes.
        self.same([row for row in journal[4]], [("bell", 0, 7, 2)])
        self.refuses(NoNumber, reason_of, streams, 9, run, 4, 0)
        self.refuses(NoNumber, shows_reason, streams, 9, run, 4, 0, ("share", 500, 500))

    def test_share_as_it_stood_ahead_of_its_comer(self):
        streams = ((1, ("share", 1, 1, 700, 0), 99), PLAIN)
        mixed = ((1, 1, False), (0, 5, False), (1, 1, False), (0, 5, True), (0, 5, True), (1, 2, True), (0, 5, False))
        run = (((0, 9, False),) * 4, (), mixed)
        journal = journal_of(streams, 9, first_standing(streams), run)
        self.same([row[0] for row in journal[2][:7]], ["come", "come", "come", "mark", "mark", "come", "come"])
        self.tells(("share", 700, 700), reason_of, streams, 9, run, 2, 3)
        self.tells(("share", 700, 400), reason_of, streams, 9, run, 2, 4)
        for place in (0, 1, 2, 5, 6, 7):
            self.refuses(NoNumber, reason_of, streams, 9, run, 2, place)

    def test_a_comer_that_is_full_leaves_the_sum(self):
        streams = ((1, ("share", 1, 1, 999, 0), 3),)
        run = (((0, 9, False),) * 3, ()) + (((0, 1, False),) * 4,) * 3
        reasons, journal = strikes_of(streams, 5, run)
        words = {row[0] for rows in journal for row in rows}
        self.assertTrue({"full", "drop"} <= words)
        for (tick, place), (_, reason) in reasons.items():
            self.tells(reason, reason_of, streams, 5, run, tick, place)

    def test_every_place_like_the_model(self):
        chance = random.Random(107)
        seen = {"share": 0, "late": 0}
        for turn in range(40):
            # Late rules that strike soon, beside rules of any kind.
            streams = some_streams(chance, kind=(None, "late", "share")[turn % 3]) if turn % 2 else tuple(
                (chance.randint(1, 9), ("late", chance.randint(1, 3), chance.randint(1, 3)), 99)
                for _ in range(chance.randint(1, 3)))
            rate, run = chance.choice((5, 9, 20, 40)), some_run(chance, len(streams), 24, most=12)
            reasons, journal = strikes_of(streams, rate, run)
            places = [(tick, place) for tick, rows in enumerate(journal) for place in range(len(rows) + 1)]
            # All strikes, and some of what is none.
            for tick, place in sorted(set(chance.sample(places, min(12, len(places)))) | set(reasons)):
                if (tick, place) in reasons:
                    _, reason = reasons[(tick, place)]
                    seen[reason[0]] += 1
                    self.same(reason_of(streams, rate, run, tick, place), reason)
                    self.assertIs(shows_reason(streams, rate, run, tick, place, reason), True)
                else:
                    self.refuses(NoNumber, reason_of, streams, rate, run, tick, place)
                    self.refuses(NoNumber, shows_reason, streams, rate, run, tick, place, ("late", 1, 1))
        self.assertGreater(min(seen.values()), 50)

    def test_a_long_run(self):
        chance = random.Random(109)
        run = some_run(chance, len(MIXED), 400, most=9)
        reasons, journal = strikes_of(MIXED, 30, run)
        self.same(strikes(MIXED, journal), tuple((tick, place, reasons[(tick, place)][0])
                                                 for tick, place in sorted(reasons)))
        for tick, place in chance.sample(sorted(reasons), 20):
            self.tells(reasons[(tick, place)][1], reason_of, MIXED, 30, run, tick, place)

    def test_what_comes_behind_the_strike_changes_nothing(self):
        run = (CROWD * 2,) + ((),) * 8
        reasons, _ = strikes_of(LATES, 9, run)
        for (tick, place), (_, reason) in reasons.items():
            self.tells(reason, reason_of, LATES, 9, run[:tick + 1], tick, place)
            self.tells(reason, reason_of, LATES, 9, run[:tick + 1] + (CROWD,) * 3, tick, place)


class TestShown(Case):

    def test_just_that(self):
        run = (CROWD,) + ((),) * 5
        for bad in list(spoilt(("late", 1, 1))) + things() + [
                ("late", 1, 2), ("late", 2, 1), ("late", 0, 1), ("late", 1, 0), ("late", True, 1), ("late", 1, True),
                ["late", 1, 1], ("late", 1), ("late", 1, 1, 1), ("share", 1, 1), (("late", 1, 1),), ("Late", 1, 1)]:
            self.tells(False, shows_reason, LATES, 9, run, 3, 0, bad)
        streams, run = ((1, ("share", 1, 1, 999, 0), 99),), (((0, 9, False),) * 3, (), ((0, 1, True),) * 3)
        reasons, _ = strikes_of(streams, 9, run)
        self.same(reasons, {(2, 1): (0, ("share", 999, 999)), (2, 2): (0, ("share", 999, 998))})
        for place, reason in ((1, ("share", 999, 999)), (2, ("share", 999, 998))):
            self.tells(True, shows_reason, streams, 9, run, 2, place, reason)
            for bad in list(spoilt(reason)) + [("share", 998, 999), ("share", 1000, 999), ("late", 999, 998),
                                               ("share", 999, 997), ("share", 999, 0), ("share", 0, 999)]:
                self.tells(False, shows_reason, streams, 9, run, 2, place, bad)

    def test_a_truth_is_no_number(self):
        # A late time from tick 1 on with count 1, and a share reason whose sum is 0.
        streams, run = ((1, ("share", 1, 1, 999, 0), 99),), (((0, 9, False),) * 9,) + ((),) * 3 + (((0, 1, True),),)
        self.tells(("share", 1000, 0), reason_of, streams, 9, run, 4, 0)
        self.tells(True, shows_reason, streams, 9, run, 4, 0, ("share", 1000, 0))
        self.tells(False, shows_reason, streams, 9, run, 4, 0, ("share", 1000, False))
        self.tells(False, shows_reason, LATES, 9, (CROWD,) + ((),) * 5, 3, 0, ("late", True, 1))


class TestRefusals(Case):

    RUN = (CROWD,) + ((),) * 5

    def refuses_both(self, kind, *args):
        for thing in (("late", 1, 1), None):
            refused = self.refuses(kind, shows_reason, *args, thing)
            if kind is NoRun:
                self.same(refused.number, 0)
        refused = self.refuses(kind, reason_of, *args)
        if kind is NoRun:
            self.same(refused.number, 0)

    def test_by_the_argument_handed_in_first(self):
        for streams in things() + [(), [PLAIN], PLAIN]:
            for rest in ((9, self.RUN, 3, 0), (0, None, None, None)):
                self.refuses_both(NoStreams, streams, *rest)
        for rate in things():
            if not within(rate, 1, 99):
                for rest in ((self.RUN, 3, 0), (None, None, None)):
                    self.refuses_both(NoRate, LATES, rate, *rest)
        for run in things() + list(spoilt(self.RUN)) + [((),) * 401, [()], (((1, 1, True),),)]:
            if not is_run(1, run):
                for rest in ((3, 0), (None, None)):
                    self.refuses_both(NoRun, LATES, 9, run, *rest)

    def test_places_that_are_none_of_a_strike(self):
        self.tells(("late", 1, 1), reason_of, LATES, 9, self.RUN, 3, 0)
        for tick in things() + [6, 7, 400]:
            for place in (0, 1, 2):
                if not (within(tick, 3, 3) and place == 0):
                    self.refuses_both(NoNumber, LATES, 9, self.RUN, tick, place)
        for place in things() + [-1, 1, 2, 3, FORTY]:
            if not within(place, 0, 0):
                self.refuses_both(NoNumber, LATES, 9, self.RUN, 3, place)
        self.refuses_both(NoNumber, LATES, 9, (), 0, 0)
        self.refuses_both(NoNumber, LATES, 9, self.RUN, -3, 0)
        self.refuses_both(NoNumber, LATES, 9, self.RUN, 3, -2)

    def test_places_are_not_counted_from_the_end(self):
        streams, run = ((1, ("share", 1, 1, 999, 0), 99),), (((0, 9, False),), (), ((0, 9, True),) * 2)
        reasons, journal = strikes_of(streams, 1, run)
        self.same([row[0] for row in journal[2]], ["come", "mark"])
        self.tells(("share", 999, 999), reason_of, streams, 1, run, 2, 1)
        for tick, place in ((2, -1), (-1, 1), (-1, -1)):
            self.refuses_both(NoNumber, streams, 1, run, tick, place)

    def test_truths_as_places(self):
        streams, run = ((1, ("late", 1, 1), 99),), (CROWD * 2,) + ((),) * 3
        reasons, _ = strikes_of(streams, 9, run)
        self.assertIn((2, 0), reasons)
        self.refuses_both(NoNumber, streams, 9, run, 2, False)
        streams = ((1, ("share", 1, 1, 999, 999), 99),)
        run = (((0, 9, False),) * 3, ((0, 9, True), (0, 9, True)))
        reasons, _ = strikes_of(streams, 9, run)
        self.assertIn((1, 1), reasons)
        self.refuses_both(NoNumber, streams, 9, run, True, 1)
        self.refuses_both(NoNumber, streams, 9, run, 1, True)


if __name__ == "__main__":
    unittest.main()
