"""The line: steps, runs, back, the diary, and what is equal."""

import random
import unittest

from waitmark.base.comers import are_comers
from waitmark.errors import NoComers, NoDeed, NoRate, NoRun, NoStanding, NoStreams
from waitmark.lanes.turns import first_standing, is_standing
from waitmark.line.line import Line
from waitmark.line.steps import stepped
from tests.things import Case, Model, some_comers, some_run, some_standing, some_streams, spoilt, things, within

NONE = ("none",)
LATE = ("late", 2, 2)
SHARE = ("share", 1, 2, 300, 40)
PLAIN = (1, NONE, 9)
TWO = (PLAIN, (2, LATE, 3))
THREE = ((1, SHARE, 9), (2, LATE, 3), (3, NONE, 2))
COMERS = ((0, 9, True), (1, 4, False), (1, 9, False))


def waiting_units(standing):
    return tuple(sum(piece[0] for piece in lane[1]) for lane in standing[3])


def pieces_in(standing):
    return sum(len(lane[1]) for lane in standing[3])


class TestALine(Case):

    def holds(self, line, streams, standing, journal):
        """Everything a line tells, twice."""
        for _ in range(2):
            self.same(line.standing(), standing)
            self.same(line.journal(), journal)
            self.same(line.waiting(), waiting_units(standing))
            self.same(len(line), pieces_in(standing))
            self.assertEqual(repr(line), f"Line({len(streams)} streams, {pieces_in(standing)} waiting)")

    def refuses_deed(self, kind, deed, *args):
        """A deed of a line is refused once, and what was handed in stays as it was."""
        before = repr(args)
        with self.assertRaises(kind) as caught:
            deed(*args)
        self.assertIs(type(caught.exception), kind)
        self.assertEqual(repr(args), before)
        return caught.exception

    def test_a_new_one(self):
        for streams in ((PLAIN,), TWO, THREE, TWO * 4):
            for line in (Line(streams), Line(streams, rate=9), Line(streams, standing=None),
                         Line(streams, rate=9, standing=first_standing(streams)), Line(streams, standing=None, rate=9)):
                self.holds(line, streams, first_standing(streams), ())
                self.same(line.diary(), ())
                self.assertTrue(line == Line(streams))

    def test_its_rate_is_nine_where_none_is_told(self):
        line, other = Line((PLAIN,)), Line((PLAIN,), rate=9)
        comers = ((0, 9, False),) * 3
        self.same(line.step(comers), other.step(comers))
        self.same(len(line), 2)
        self.assertTrue(line == other)

    def test_rate_and_standing_come_by_name_alone(self):
        for args in ((TWO, 9), (TWO, 9, first_standing(TWO)), ()):
            with self.assertRaises(TypeError):
                Line(*args)

    def test_the_text_of_it(self):
        self.same(repr(Line((PLAIN,))), "Line(1 streams, 0 waiting)")
        line = Line(TWO, rate=1)
        line.step(COMERS + COMERS)
        self.same(repr(line), "Line(2 streams, 5 waiting)")
        self.same(len(line), 5)
        self.same(line.waiting(), (18, 17))
        line = Line((PLAIN, PLAIN), rate=1)
        line.step(((0, 9, False),))
        self.same(repr(line), "Line(2 streams, 1 waiting)")

    def test_steps(self):
        line = Line(TWO, rate=9)
        rows = line.step(COMERS)
        self.same(rows, (("come", 0, 9, 0), ("come", 1, 4, 0), ("come", 1, 9, 0), ("send", 0, 9, 0)))
        standing, due = stepped(TWO, 9, first_standing(TWO), COMERS)
        self.same(rows, due)
        self.holds(line, TWO, standing, (rows,))
        more = line.step()
        self.same(more, (("send", 1, 4, 1),))
        last, due = stepped(TWO, 9, standing, ())
        self.holds(line, TWO, last, (rows, due))
        self.same(line.step(comers=((0, 1, True),)), stepped(TWO, 9, last, ((0, 1, True),))[1])
        self.same(line.diary(), (("step", "done"),) * 3)

    def test_a_step_that_is_refused_changes_nothing_but_the_diary(self):
        line = Line(TWO, rate=1)
        line.step(COMERS)
        standing, journal = line.standing(), line.journal()
        for bad in things() + [((2, 1, True),), ((0, 10, True),), ((0, 1, True),) * 65, [(0, 1, True)], None]:
            if not are_comers(2, bad):
                self.refuses_deed(NoComers, line.step, bad)
                self.holds(line, TWO, standing, journal)
        told = line.diary()
        self.same(told[0], ("step", "done"))
        self.same(set(told[1:]), {("step", "refused")})
        self.same(line.diary(), ())
        self.same(line.step(), stepped(TWO, 1, standing, ())[1])

    def test_runs(self):
        chance = random.Random(47)
        for _ in range(30):
            streams = some_streams(chance)
            standing = some_standing(chance, streams)
            rate = chance.randint(1, 99)
            run = some_run(chance, len(streams), chance.randint(0, 20))
            line, model = Line(streams, rate=rate, standing=standing), Model(streams, standing)
            due = tuple(model.step(rate, comers) for comers in run)
            before = repr(run)
            self.same(line.run(run), due)
            self.same(repr(run), before)
            self.holds(line, streams, model.standing(), due)
            self.same(line.diary(), (("run", "done"),) + (("step", "done"),) * len(run))
            self.assertTrue(is_standing(streams, line.standing()))

    def test_a_run_is_its_steps(self):
        chance = random.Random(53)
        streams = THREE
        run = some_run(chance, 3, 30)
        one, other = Line(streams), Line(streams)
        told = one.run(run)
        self.same(told, tuple(other.step(comers) for comers in run))
        self.holds(one, streams, other.standing(), other.journal())
        self.assertTrue(one == other)
        for part in range(31):
            parts = Line(streams)
            self.same(parts.run(run[:part]) + parts.run(run[part:]), told)
            self.holds(parts, streams, other.standing(), told)

    def test_a_tick_that_is_none_at_any_place(self):
        run = (COMERS,) * 5
        for bad in (None, (None,), [], ((2, 1, True),), ((0, 1, 1),), ((0, 0, True),), ((True, 1, True),), 0, "",
                    ((0, 1, True),) * 65):
            for place in range(6):
                line, other = Line(TWO, rate=3), Line(TWO, rate=3)
                due = tuple(other.step(comers) for comers in run[:place])
                refused = self.refuses_deed(NoRun, line.run, run[:place] + (bad,) + run[place:])
                self.same(refused.number, place)
                self.holds(line, TWO, other.standing(), due)
                self.same(line.diary(), (("run", "refused"),) + (("step", "done"),) * place)
                self.assertTrue(line == other)
                self.same(line.step(COMERS), other.step(COMERS))

    def test_the_first_tick_that_is_none_tells(self):
        line = Line(TWO)
        self.same(self.refuses_deed(NoRun, line.run, ((), (), None, (), 5, None)).number, 2)
        self.same(line.journal(), ((), ()))

    def test_a_run_that_is_none_at_all(self):
        line = Line(TWO, rate=3)
        line.step(COMERS)
        standing, journal = line.standing(), line.journal()
        line.diary()
        for bad in things() + [[COMERS], [()], {0: ()}, ((),) * 401, ((), None) * 201, "", None]:
            if type(bad) is tuple and len(bad) <= 400:
                continue
            refused = self.refuses_deed(NoRun, line.run, bad)
            self.same(refused.number, 0)
            self.holds(line, TWO, standing, journal)
            self.same(line.diary(), (("run", "refused"),))
        self.same(line.run(()), ())
        self.same(line.diary(), (("run", "done"),))
        self.holds(line, TWO, standing, journal)

    def test_the_longest_run(self):
        line = Line(TWO)
        self.same(line.run(((),) * 400), ((),) * 400)
        self.same(len(line.journal()), 400)
        line = Line(TWO * 4, rate=30)
        crowd = tuple((at % 8, 1 + at % 9, at % 2 == 0) for at in range(64))
        rows = line.run((crowd,) * 400)
        self.same(len(rows), 400)
        for left in range(400, 0, -1):
            self.same(len(line.journal()), left)
            line.back()
        self.holds(line, TWO * 4, first_standing(TWO * 4), ())

    def test_back(self):
        chance = random.Random(59)
        for _ in range(15):
            streams = some_streams(chance)
            standing = some_standing(chance, streams)
            line = Line(streams, rate=chance.randint(1, 30), standing=standing)
            seen = []
            for _ in range(10):
                seen.append((line.standing(), line.journal()))
                if chance.random() < 0.5:
                    line.step(some_comers(chance, len(streams)))
                else:
                    # A run's ticks are taken back one by one.
                    line.run((some_comers(chance, len(streams)),))
            line.diary()
            for standing, journal in reversed(seen):
                self.same(line.back(), None)
                self.holds(line, streams, standing, journal)
            self.same(line.diary(), (("back", "done"),) * 10)
            for _ in range(2):
                self.refuses_deed(NoDeed, line.back)
                self.holds(line, streams, standing, ())
                self.same(line.diary(), (("back", "refused"),))

    def test_back_of_a_runs_ticks_one_by_one(self):
        run = (COMERS, (), COMERS, ((0, 5, False),))
        line = Line(TWO, rate=3)
        rows = line.run(run)
        for left in (3, 2, 1, 0):
            line.back()
            other = Line(TWO, rate=3)
            self.same(other.run(run[:left]), rows[:left])
            self.holds(line, TWO, other.standing(), rows[:left])
            self.assertTrue(line == other)
        self.refuses_deed(NoDeed, line.back)

    def test_behind_back_it_goes_on_otherwise(self):
        line, other = Line(THREE, rate=3), Line(THREE, rate=3)
        line.run((COMERS, COMERS, COMERS))
        other.step(COMERS)
        line.back()
        line.back()
        for comers in (((2, 9, True),), (), COMERS, ((2, 1, True), (0, 1, True))):
            self.same(line.step(comers), other.step(comers))
            self.holds(line, THREE, other.standing(), other.journal())
        for _ in range(5):
            line.back()
        self.holds(line, THREE, first_standing(THREE), ())
        self.refuses_deed(NoDeed, line.back)

    def test_back_takes_the_good_ticks_of_a_refused_run_too(self):
        line = Line(TWO)
        line.step(COMERS)
        standing = line.standing()
        self.same(self.refuses_deed(NoRun, line.run, (COMERS, (), None)).number, 2)
        self.same(len(line.journal()), 3)
        line.back()
        line.back()
        self.same(line.standing(), standing)
        line.back()
        self.refuses_deed(NoDeed, line.back)

    def test_a_refused_deed_is_nothing_to_take_back(self):
        line = Line(TWO)
        self.refuses_deed(NoComers, line.step, None)
        self.refuses_deed(NoRun, line.run, None)
        self.refuses_deed(NoDeed, line.back)
        self.same(line.diary(), (("step", "refused"), ("run", "refused"), ("back", "refused")))

    def test_the_diary(self):
        line = Line(TWO)
        self.same(line.diary(), ())
        line.step()
        line.run(((), COMERS))
        line.back()
        self.refuses_deed(NoComers, line.step, 5)
        self.refuses_deed(NoRun, line.run, ((), None, ()))
        self.refuses_deed(NoRun, line.run, [])
        line.run(())
        due = (("step", "done"), ("run", "done"), ("step", "done"), ("step", "done"), ("back", "done"),
               ("step", "refused"), ("run", "refused"), ("step", "done"), ("run", "refused"), ("run", "done"))
        self.same(line.diary(), due)
        self.same(line.diary(), ())
        for _ in range(3):
            line.back()
        self.refuses_deed(NoDeed, line.back)
        self.same(line.diary(), (("back", "done"),) * 3 + (("back", "refused"),))
        self.same(line.diary(), ())
        # What is asked of it but steps, runs and backs stands in no diary.
        self.same((line.standing(), line.journal(), line.waiting(), len(line), line == line),
                  (first_standing(TWO), (), (0, 0), 0, True))
        self.same(line.diary(), ())

    def test_what_it_told_stays_as_it_was(self):
        line = Line(TWO, rate=3)
        line.step(COMERS)
        told = (line.standing(), line.journal(), line.waiting(), line.diary())
        before = repr(told)
        line.run((COMERS, COMERS))
        line.back()
        self.same(repr(told), before)

    def test_two_lines_keep_to_themselves(self):
        line = Line(TWO, rate=3)
        line.step(COMERS)
        other = Line(TWO, rate=3, standing=line.standing())
        self.assertTrue(line == other)
        before = (other.standing(), other.journal(), len(other))
        line.step(COMERS)
        self.same((other.standing(), other.journal(), len(other)), before)
        self.same(other.diary(), ())
        self.assertTrue(line != other)
        other.step(COMERS)
        self.assertTrue(line == other)
        self.same(len(other.journal()), 1)
        other.back()
        self.refuses_deed(NoDeed, other.back)

    def test_from_one_standing_all_goes_on_alike(self):
        chance = random.Random(61)
        for _ in range(20):
            streams = some_streams(chance)
            rate = chance.randint(1, 40)
            line = Line(streams, rate=rate)
            line.run(some_run(chance, len(streams), 10))
            other = Line(streams, rate=rate, standing=line.standing())
            run = some_run(chance, len(streams), 10)
            self.same(line.run(run), other.run(run))
            self.same(line.standing(), other.standing())

    def test_equal_by_streams_rate_and_standing_alone(self):
        line, other = Line(TWO, rate=3), Line(TWO, rate=3)
        line.step()
        self.refuses_deed(NoComers, line.step, None)
        self.assertIs(line == other, True)
        self.assertIs(line != other, False)
        line.step(COMERS)
        self.assertIs(line == other, False)
        self.assertIs(line != other, True)
        line.back()
        self.assertIs(line == other, True)
        for different in (Line(TWO, rate=4), Line(TWO), Line((PLAIN, (2, LATE, 4)), rate=3), Line((PLAIN,), rate=3),
                          Line(TWO + (PLAIN,), rate=3), Line((PLAIN, (2, ("late", 2, 3), 3)), rate=3),
                          Line(TWO, rate=3, standing=stepped(TWO, 3, first_standing(TWO), COMERS)[0])):
            self.assertIs(line == different, False)
            self.assertIs(different == line, False)
            self.assertIs(line != different, True)

    def test_equal_by_each_part_of_the_standing(self):
        lanes = ((0, ((9, True, False, 4),), ()), (0, (), (None, None, 0)))
        standing = (3, False, (0,), lanes)
        line = Line(TWO, rate=3, standing=standing)
        self.assertIs(line == Line(TWO, rate=3, standing=standing), True)
        for other in ((4, False, (0,), lanes), (3, True, (0,), lanes),
                      (3, False, (0,), (lanes[0], (0, (), (None, None, 1)))),
                      (3, False, (0,), ((1,) + lanes[0][1:], lanes[1])),
                      (3, False, (0,), ((0, ((9, True, True, 4),), ()), lanes[1])),
                      (3, False, (0,), ((0, ((9, True, False, 5),), ()), lanes[1]))):
            self.assertIs(line == Line(TWO, rate=3, standing=other), False)
            self.assertIs(line != Line(TWO, rate=3, standing=other), True)

    def test_of_what_is_no_line_false(self):
        line = Line((PLAIN,))
        for thing in things() + [(PLAIN,), line.standing(), ((PLAIN,), 9, line.standing()), repr(line), Line, object()]:
            self.assertIs(line == thing, False)
            self.assertIs(line != thing, True)
            self.assertIs(thing == line, False)


class TestRefusals(Case):

    def test_no_streams_go_first(self):
        for streams in things() + list(spoilt(TWO)) + [(), [PLAIN], PLAIN, (PLAIN,) * 9, (PLAIN, (1, NONE, 0))]:
            if repr(streams) in (repr(TWO), repr((PLAIN,)), repr(TWO[1:])):
                continue
            for rate in (9, 0):
                for standing in (None, first_standing(TWO), 5):
                    self.refuses(NoStreams, Line, streams, rate=rate, standing=standing)
            self.refuses(NoStreams, Line, streams)

    def test_no_rate_goes_next(self):
        for rate in things():
            if not within(rate, 1, 99):
                self.refuses(NoRate, Line, TWO, rate=rate)
                for standing in (None, first_standing(TWO), first_standing((PLAIN,)), 5):
                    self.refuses(NoRate, Line, TWO, rate=rate, standing=standing)
                    self.refuses(NoRate, Line, TWO, standing=standing, rate=rate)

    def test_no_standing_of_these_streams(self):
        for standing in things() + list(spoilt(first_standing(TWO))) + [first_standing((PLAIN,)), ()]:
            if standing is not None and not is_standing(TWO, standing):
                self.refuses(NoStanding, Line, TWO, rate=9, standing=standing)
                self.refuses(NoStanding, Line, TWO, standing=standing)


if __name__ == "__main__":
    unittest.main()
