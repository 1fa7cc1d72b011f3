"""Journals, accounts, strikes and waits."""

import random
import unittest

from waitmark.base.comers import is_run
from waitmark.base.plain import plain_waits
from waitmark.errors import NoNumber, NoRate, NoStanding, NoStreams
from waitmark.lanes.turns import first_standing, is_standing
from waitmark.line.journals import accounts, journal_of, shows_journal, strikes, waits
from waitmark.line.line import Line
from tests.things import Case, Model, some_run, some_standing, some_streams, spoilt, spoilt_deep, things, within

NONE = ("none",)
LATE = ("late", 1, 2)
SHARE = ("share", 1, 2, 300, 40)
PLAIN = (1, NONE, 9)
TWO = (PLAIN, (2, LATE, 3))
THREE = ((1, SHARE, 4), (2, LATE, 3), (3, NONE, 2))
RUN = (((0, 9, True), (1, 4, False), (1, 9, False)), (), ((1, 5, True),))


def model_journal(streams, rate, standing, run):
    model = Model(streams, standing)
    return tuple(model.step(rate, comers) for comers in run), model


def some_line(chance, kind=None, ticks=20, most=8):
    streams = some_streams(chance, kind=kind)
    return streams, chance.choice((1, 5, 9, 20, 40)), some_run(chance, len(streams), ticks, most)


def bad_runs(many):
    return [thing for thing in things() + list(spoilt(RUN)) + [[()], ((),) * 401, (((many, 1, True),),)]
            if not is_run(many, thing)]


class TestJournals(Case):

    def test_by_hand(self):
        due = ((("come", 0, 9, 0), ("come", 1, 4, 0), ("come", 1, 9, 0), ("send", 0, 9, 0)),
               (("send", 1, 4, 1),), (("come", 1, 5, 0), ("send", 1, 9, 2), ("send", 1, 5, 0)))
        self.tells(due, journal_of, TWO, 9, first_standing(TWO), RUN)
        self.tells(True, shows_journal, TWO, 9, first_standing(TWO), RUN, due)
        self.tells((), journal_of, TWO, 9, first_standing(TWO), ())
        self.tells(((), ()), journal_of, TWO, 9, first_standing(TWO), ((), ()))

    def test_like_the_model_and_like_a_line(self):
        chance = random.Random(67)
        for turn in range(60):
            streams, rate, run = some_line(chance, (None, "late", "share")[turn % 3])
            standing = first_standing(streams) if turn % 2 else some_standing(chance, streams)
            due, _ = model_journal(streams, rate, standing, run)
            self.tells(due, journal_of, streams, rate, standing, run)
            self.tells(True, shows_journal, streams, rate, standing, run, due)
            line = Line(streams, rate=rate, standing=standing)
            line.run(run)
            self.same(line.journal(), due)

    def test_a_run_parted_at_any_place(self):
        chance = random.Random(71)
        streams, rate, run = some_line(chance, ticks=16)
        standing = some_standing(chance, streams)
        whole = journal_of(streams, rate, standing, run)
        for part in range(len(run) + 1):
            line = Line(streams, rate=rate, standing=standing)
            line.run(run[:part])
            ahead = journal_of(streams, rate, standing, run[:part])
            self.same(ahead + journal_of(streams, rate, line.standing(), run[part:]), whole)

    def test_each_thing_is_sent_dropped_or_waits_in_order(self):
        chance = random.Random(73)
        for _ in range(40):
            streams, rate, run = some_line(chance)
            line = Line(streams, rate=rate)
            line.run(run)
            for number in range(len(streams)):
                came, gone = [], []
                for tick, rows in enumerate(line.journal()):
                    for word, stream, size, wait in rows:
                        if stream == number and (word in ("send", "bell") or (word == "drop" and wait > 0)):
                            gone.append((size, tick - wait))
                        elif stream == number and word in ("come", "mark"):
                            came.append((size, tick))
                left = [(piece[0], len(run) - piece[3]) for piece in line.standing()[3][number][1]]
                self.assertEqual(gone + left, came)

    def test_spoilt_at_any_depth(self):
        standing = first_standing(TWO)
        journal = journal_of(TWO, 9, standing, RUN)
        for bad in spoilt_deep(journal):
            self.assertIs(shows_journal(TWO, 9, standing, RUN, bad), repr(bad) == repr(journal), bad)

    def test_kinds_too(self):
        standing, run = first_standing(TWO), (((1, 1, True), (0, 1, False)), ())
        journal = journal_of(TWO, 1, standing, run)
        self.same(journal, ((("come", 1, 1, 0), ("come", 0, 1, 0), ("send", 1, 1, 0)), (("send", 0, 1, 1),)))
        for bad in (((("come", True, 1, 0), ("come", 0, 1, 0), ("send", 1, 1, 0)), (("send", 0, 1, 1),)),
                    ((("come", 1, True, 0), ("come", 0, 1, 0), ("send", 1, 1, 0)), (("send", 0, 1, 1),)),
                    ((("come", 1, 1, False), ("come", 0, 1, 0), ("send", 1, 1, 0)), (("send", 0, 1, 1),)),
                    ((("come", 1, 1, 0), ("come", False, 1, 0), ("send", 1, 1, 0)), (("send", 0, 1, 1),)),
                    ([("come", 1, 1, 0), ("come", 0, 1, 0), ("send", 1, 1, 0)], (("send", 0, 1, 1),)),
                    ((["come", 1, 1, 0], ("come", 0, 1, 0), ("send", 1, 1, 0)), (("send", 0, 1, 1),)),
                    list(journal), journal[:1], journal + ((),), journal[::-1], repr(journal), (journal,)):
            self.tells(False, shows_journal, TWO, 1, standing, run, bad)
        self.tells(True, shows_journal, TWO, 1, standing, run, journal)

    def test_of_another_rate_another_standing_another_run(self):
        standing = first_standing(TWO)
        other = (3, False, (0,), ((0, ((9, True, False, 4),), ()), (0, (), (None, None, 0))))
        journal = journal_of(TWO, 9, standing, RUN)
        self.tells(False, shows_journal, TWO, 8, standing, RUN, journal)
        self.tells(False, shows_journal, TWO, 9, other, RUN, journal)
        self.tells(False, shows_journal, TWO, 9, standing, RUN[:2], journal)
        self.tells(False, shows_journal, TWO, 9, standing, RUN + ((),), journal)
        self.tells(True, shows_journal, TWO, 9, other, RUN, journal_of(TWO, 9, other, RUN))

    def test_things_of_all_kinds(self):
        for thing in things():
            self.tells(False, shows_journal, TWO, 9, first_standing(TWO), RUN, thing)
            self.tells(repr(thing) == "()", shows_journal, TWO, 9, first_standing(TWO), (), thing)
            self.tells(repr(thing) == "((), ())", shows_journal, TWO, 9, first_standing(TWO), ((), ()), thing)

    def test_refusals_by_the_argument_handed_in_first(self):
        first = first_standing(TWO)
        for streams in things() + [(), [PLAIN], PLAIN, (PLAIN,) * 9]:
            for rate, standing, run in ((9, first, RUN), (0, None, None)):
                self.refuses(NoStreams, journal_of, streams, rate, standing, run)
                self.refuses(NoStreams, shows_journal, streams, rate, standing, run, ())
        for rate in things():
            if not within(rate, 1, 99):
                for standing, run in ((first, RUN), (None, None)):
                    self.refuses(NoRate, journal_of, TWO, rate, standing, run)
                    self.refuses(NoRate, shows_journal, TWO, rate, standing, run, ())
        for standing in things() + list(spoilt(first)) + [first_standing((PLAIN,))]:
            if not is_standing(TWO, standing):
                for run in (RUN, None):
                    self.refuses(NoStanding, journal_of, TWO, 9, standing, run)
                    self.refuses(NoStanding, shows_journal, TWO, 9, standing, run, ())
        for run in bad_runs(2):
            self.refuses_run(journal_of, TWO, 9, first, run)
            self.refuses_run(shows_journal, TWO, 9, first, run, ())


class TestAccounts(Case):

    def test_by_hand(self):
        journal = journal_of(TWO, 9, first_standing(TWO), RUN)
        self.tells(((0, 9, 0, 0, 9, 0), (0, 18, 0, 0, 18, 0)), accounts, TWO, first_standing(TWO), journal)
        self.tells(((0,) * 6,) * 2, accounts, TWO, first_standing(TWO), ())
        standing = (3, False, (1,), ((0, (), ()), (0, ((9, True, False, 4), (8, False, False, 0)), (None, None, 0))))
        self.tells(((0,) * 6, (17, 0, 0, 0, 0, 17)), accounts, TWO, standing, ())
        self.tells(((0,) * 6, (17, 0, 0, 0, 0, 17)), accounts, TWO, standing, ((), ()))

    def test_each_word(self):
        journal = ((("come", 0, 1, 0), ("mark", 0, 2, 0), ("full", 0, 3, 0), ("drop", 0, 4, 0)),
                   (("drop", 0, 5, 1), ("send", 0, 6, 0), ("bell", 0, 7, 9), ("drop", 0, 8, 99)))
        standing = (0, False, (0,), ((0, ((9, False, False, 0),) * 3, (None, None, 0)),))
        streams = ((1, LATE, 9),)
        self.tells(((27, 10, 7, 13, 13, 4),), accounts, streams, standing, journal)

    def test_full_and_share_strikes_are_barred_late_strikes_dropped(self):
        streams = ((1, ("share", 1, 1, 999, 0), 2),)
        run = (((0, 9, False), (0, 9, False), (0, 9, False)),) + ((),) * 2 + (((0, 4, False), (0, 5, True)),)
        journal = journal_of(streams, 3, first_standing(streams), run)
        self.same(journal[0][2], ("full", 0, 9, 0))
        self.same(journal[3], (("drop", 0, 4, 0), ("mark", 0, 5, 0)))
        self.tells(((0, 36, 13, 0, 9, 14),), accounts, streams, first_standing(streams), journal)

    def test_like_a_count_of_comers_and_pieces(self):
        chance = random.Random(79)
        words = set()
        for turn in range(60):
            streams, rate, run = some_line(chance, (None, "late", "share")[turn % 3])
            standing = first_standing(streams) if turn % 2 else some_standing(chance, streams)
            journal, model = model_journal(streams, rate, standing, run)
            due = []
            for number in range(len(streams)):
                ahead = sum(piece[0] for piece in standing[3][number][1])
                asked = sum(size for comers in run for stream, size, _ in comers if stream == number)
                parts = {}
                for rows in journal:
                    for word, stream, size, wait in rows:
                        if stream == number:
                            words.add((word, wait > 0))
                            key = word + " head" * (wait > 0)
                            parts[key] = parts.get(key, 0) + size
                barred = parts.get("full", 0) + parts.get("drop", 0)
                sent = sum(parts.get(key, 0) for key in ("send", "send head", "bell", "bell head"))
                left = sum(piece[0] for piece in model.queues[number])
                due.append((ahead, asked, barred, parts.get("drop head", 0), sent, left))
            self.tells(tuple(due), accounts, streams, standing, journal)
            for row in due:
                self.assertEqual(row[0] + row[1] - row[2] - row[3] - row[4], row[5])
        self.assertTrue({("full", False), ("drop", False), ("drop", True), ("bell", True)} <= words)

    def test_behind_any_tick_they_are_what_waits(self):
        chance = random.Random(83)
        streams, rate, run = some_line(chance, ticks=30)
        line = Line(streams, rate=rate)
        for comers in run:
            line.step(comers)
            told = accounts(streams, first_standing(streams), line.journal())
            self.same(tuple(row[5] for row in told), line.waiting())

    def test_refusals(self):
        for streams in things() + [(), [PLAIN], PLAIN]:
            for standing in (first_standing(TWO), None):
                self.refuses(NoStreams, accounts, streams, standing, ())
        for standing in things() + list(spoilt(first_standing(TWO))) + [first_standing((PLAIN,))]:
            if not is_standing(TWO, standing):
                self.refuses(NoStanding, accounts, TWO, standing, ())


class TestWaits(Case):

    def test_by_hand(self):
        journal = journal_of(TWO, 9, first_standing(TWO), RUN)
        self.tells((0,), waits, journal, 0)
        self.tells((1, 2, 0), waits, journal, 1)
        for stream in range(2, 8):
            self.tells((), waits, journal, stream)
        self.tells((), waits, (), 0)
        self.tells((), waits, ((), ()), 7)

    def test_of_what_is_sent_alone(self):
        journal = ((("come", 0, 1, 0), ("mark", 0, 2, 0), ("full", 0, 3, 0), ("drop", 0, 4, 0)),
                   (("drop", 0, 5, 1), ("send", 0, 6, 7), ("bell", 0, 7, 5), ("send", 1, 8, 3)), (("bell", 0, 1, 5),))
        self.tells((7, 5, 5), waits, journal, 0)
        self.tells((3,), waits, journal, 1)

    def test_of_one_stream_of_no_rule_they_are_the_plain_lines(self):
        chance = random.Random(89)
        for _ in range(20):
            run = some_run(chance, 1, 30, most=3)
            streams = ((chance.randint(1, 9), NONE, 99),)
            journal = journal_of(streams, 9, first_standing(streams), run)
            self.tells(tuple(wait for tick in plain_waits(run) for wait in tick), waits, journal, 0)

    def test_like_the_rows(self):
        chance = random.Random(97)
        for _ in range(20):
            streams, rate, run = some_line(chance)
            journal = journal_of(streams, rate, first_standing(streams), run)
            for number in range(8):
                due = [row[3] for rows in journal for row in rows if row[1] == number and row[0] in ("send", "bell")]
                self.tells(tuple(due), waits, journal, number)

    def test_refusals(self):
        journal = journal_of(TWO, 9, first_standing(TWO), RUN)
        for stream in things() + [8, -1]:
            if not within(stream, 0, 7):
                self.refuses(NoNumber, waits, journal, stream)
                self.refuses(NoNumber, waits, (), stream)


class TestStrikes(Case):

    def test_by_hand(self):
        streams = ((1, LATE, 99), (1, ("share", 1, 1, 500, 0), 99))
        run = (((0, 9, False), (0, 9, True), (0, 9, True), (0, 9, False), (0, 9, True)),) + ((),) * 5
        self.same(strikes(streams, journal_of(streams, 9, first_standing(streams), run)), ((3, 0, 0),))
        journal = journal_of(streams, 9, first_standing(streams), run)
        self.tells(((3, 0, 0),), strikes, streams, journal)
        self.same(journal[3], (("drop", 0, 9, 3), ("send", 0, 9, 3)))
        run = (((1, 9, False),) * 3, ()) + (((1, 8, False), (1, 7, True)),) * 2 + ((),) * 6
        journal = journal_of(streams, 9, first_standing(streams), run)
        self.same([row for rows in journal for row in rows if row[0] not in ("come", "send")],
                  [("mark", 1, 7, 0), ("mark", 1, 7, 0), ("bell", 1, 7, 2), ("bell", 1, 7, 3)])
        self.tells(((2, 1, 1), (3, 1, 1)), strikes, streams, journal)

    def test_each_word_of_each_kind_of_rule(self):
        journal = ((("come", 0, 1, 0), ("mark", 0, 2, 0), ("full", 0, 3, 0), ("drop", 0, 4, 0), ("bell", 0, 7, 1)),
                   (), (("bell", 1, 7, 5), ("send", 1, 6, 7), ("drop", 1, 5, 1), ("come", 1, 5, 0), ("full", 1, 5, 0)))
        streams = ((1, SHARE, 9), (1, LATE, 9), PLAIN)
        self.tells(((0, 1, 0), (0, 3, 0), (2, 0, 1), (2, 2, 1)), strikes, streams, journal)
        self.tells((), strikes, streams, ())
        self.tells((), strikes, streams, ((), (("come", 2, 1, 0), ("send", 2, 1, 0), ("full", 2, 9, 0))))

    def test_like_the_model(self):
        chance = random.Random(101)
        seen = {"share": 0, "late": 0}
        for turn in range(60):
            streams, rate, run = some_line(chance, (None, "late", "share")[turn % 3], ticks=40)
            journal, model = model_journal(streams, rate, None, run)
            due = tuple((tick, place, model.reasons[(tick, place)][0]) for tick, place in sorted(model.reasons))
            self.tells(due, strikes, streams, journal)
            for _, reason in model.reasons.values():
                seen[reason[0]] += 1
        self.assertGreater(min(seen.values()), 50)

    def test_of_share_strikes_just_so_many_come_as_shares_do(self):
        chance = random.Random(103)
        for _ in range(30):
            streams = ((1, ("share", 1, 1, chance.randint(1, 300), chance.randint(0, 99)), 99),)
            line, run = Line(streams, rate=5), some_run(chance, 1, 40, most=4)
            shares, come = 0, 0
            for comers in run:
                rows = line.step(comers)
                # The share of this tick stands in the memory behind it.
                share = line.standing()[3][0][2][1]
                here = [row for row in rows if row[0] in ("come", "mark") or row[0] == "drop"]
                shares += share * len(here)
                come += len([row for row in here if row[0] != "come"])
            self.assertEqual(come, shares // 1000)
            self.assertEqual(len(strikes(streams, line.journal())), come)

    def test_refusals(self):
        for streams in things() + [(), [PLAIN], PLAIN, (PLAIN,) * 9]:
            self.refuses(NoStreams, strikes, streams, ())


if __name__ == "__main__":
    unittest.main()
