"""The desk: rows, answers, what is refused, and the log."""

import random
import unittest

from waitmark import errors
from waitmark.desk.desk import Desk
from waitmark.desk.texts import comers_text, read_comers, read_streams, rows_text, streams_text
from waitmark.errors import NoBucket, NoComers, NoDeed, NoLine, NoNumber, NoRate, NoText, NoWorld, TooLong
from waitmark.lanes.turns import first_standing
from waitmark.line.line import Line
from waitmark.senders.rings import ring_of
from waitmark.small.letin import longest
from tests.things import Case, ModelRing, some_comers, some_streams, some_world, things

NONE = ("none",)
PLAIN = (1, NONE, 9)
TWO = (PLAIN, (2, ("late", 5, 40), 40))
LINE = "line 5 1 9 none / 2 40 late 5 40"
FORTY = "9" * 40
WORLD = "9 1 9 none ; 1 5 8"
LONG = "ring 1 4 6 none ; 8 20 4m"

# Rows of no form, whether there is a line or not.
NO_ROWS = (
    "", " ", "-", "ok", "none", "line", "line ", "line 5", "line 5 ", "line  5 1 9 none", "line 5  1 9 none", " " + LINE,
    LINE + " ", LINE + "\n", LINE + " /", LINE + " / ", LINE.upper(), "Line 5 1 9 none", "line 05 1 9 none", "line 5\t1 9 none",
    "line +5 1 9 none", "line -1 1 9 none", "line 5.0 1 9 none", "line \u0665 1 9 none", "line 5 1 9 none/2 9 none",
    "line 5 1 9", "line 5 1 9 late 5", "line 5 1 9 late 5 40 4", "line 5 1 9 none 1", "line 5 1 9 share 1 2 3",
    "line 5 01 9 none", "line 5 1 9 none ; 1 5 8", "line 5 1 9 any", f"line {FORTY}9 1 9 none", f"line 5 1 {FORTY}9 none",
    f"line 5 1 9 late {FORTY}9 1", "step", "step ", "step  -", "step - ", " step -", "step -\n", "step -m", "step 0",
    "step 0:", "step :3", "step 0:3m9", "step 0:3M", "step 0:3 ", "step 0:3  0:3", "step 0:3\t0:3", "step 0:3,0:3",
    "step 0:03", "step 00:3", f"step 0:{FORTY}9", f"step {FORTY}9:1", "step 0:3 -", "step - 0:3", "step\t-", "steps -",
    "Step -", "step 0:\u0663", "step 0:-3", "wait ", " wait", "wait\n", "wait 0", "Wait", "waits", "back ", " back", "back 1",
    "back\n", "backs", "BACK", "longest", "longest ", "longest 0 1", "longest 0 1 ", "longest 0 1 1 1", "longest 0 1 1 ",
    "longest  0 1 1", "longest 0 1  1", "longest 00 1 1", "longest 0 01 1", "longest 0 1 -1", "longest 0 1 \u0661",
    f"longest {FORTY}9 1 1", f"longest 0 {FORTY}9 1", f"longest 0 1 {FORTY}9", "longest 0 1 1m", "longest\n0 1 1", "ring",
    "ring ", "ring 9 1 9 none", "ring 9 1 9 none ;", "ring 9 1 9 none ; ", "ring 9 1 9 none; 1 5 8", "ring 9 1 9 none ;1 5 8",
    "ring 9 1 9 none ; 1 5 8 ; 1 5 8", "ring 9 1 9 none ; 1 5", "ring 9 1 9 none ; 1 5 8 m", "ring 9 1 9 none ; 1 5 8mm",
    "ring 9 1 9 none ; 1m 5 8", "ring 9 1 9 none ; 1 5m 8", "ring 9 1 9 none ; 1 5 8 9", "ring 9 1 9 none ; 1 5 m",
    "ring 9 ; 1 5 8", "ring 1 9 none ; 1 5 8", "ring 9 1 9 none ; 01 5 8", "ring 9 1 9 none ; 1 5 8 /",
    "ring 9 1 9 none ; 1 5 8/1 5 8", f"ring {FORTY}9 1 9 none ; 1 5 8", f"ring 9 1 9 none ; 1 5 {FORTY}9",
    "ring 9 1 9 none ; 1 5 8 ", "ring 9 1 9 none  ; 1 5 8", "ring " + WORLD + "\n", "Ring " + WORLD, "run -", "log", "say -",
    "many", "standing", "journal",
)

# Streams and comers of good form that nothing writes: numbers out of their bounds, or too many.
NO_STREAMS = (
    "0 9 none", "10 9 none", f"{FORTY} 9 none", "1 0 none", "1 100 none", f"1 {FORTY} none", "1 9 late 0 5", "1 9 late 5 0",
    "1 9 late 5 100", f"1 9 late {FORTY} 1", "1 9 share 1 0 1 1", "1 9 share 1 1 1000 1", "1 9 share 5 5 1000 0",
    f"{FORTY} {FORTY} share {FORTY} 0 {FORTY} 1", " / ".join(["1 9 none"] * 9), "1 9 none / 0 9 none", "10 9 none / 1 9 none",
)
NO_COMERS = (
    "0:0", "0:10", "0:10m", "8:1", "8:10", "0:1 9:9m", f"{FORTY}:1", f"0:{FORTY}m", f"{FORTY}:{FORTY}m", "0:1 0:0",
    " ".join(["0:1"] * 65),
)


class ModelDesk:
    """The desk once more: a Line, and what has been said; rows come taken apart."""

    def __init__(self):
        self.line = None
        self.streams = None
        self.rate = None
        self.log = []

    def say(self, text, word, *parts):
        self.log += [("in", text), ("out", text)]
        return getattr(self, word)(*parts)

    def new(self, rate, streams):
        self.line, self.streams, self.rate = Line(streams, rate=rate), streams, rate
        return "ok"

    def step(self, comers):
        return rows_text(self.line.step(comers))

    def wait(self):
        return " ".join(str(many) for many in self.line.waiting())

    def back(self):
        self.line.back()
        return "ok"

    def longest(self, stream, depth, gain):
        told = longest(self.streams, stream, self.rate, (depth, gain))
        return "none" if told is None else f"{told[0]} {told[1]}"


def world_text(world):
    streams, rate, senders = world
    told = " / ".join(f"{size} {delay} {most}" + "m" * can for size, can, delay, most in senders)
    return f"{rate} {streams_text(streams)} ; {told}"


def both_ends(*rows):
    """What the log has of these rows."""
    texts = [row if isinstance(row, str) else "" for row in rows]
    return tuple((end, text) for text in texts for end in ("in", "out"))


class Desks(Case):

    def refused(self, desk, kind, row, lines=True):
        """A row is refused: just this class; the line is as it was, and both ends of the log have the row."""
        line, log = desk.line(), desk.log()
        with self.assertRaises(errors.LineError) as caught:
            desk.say(row)
        self.assertIs(type(caught.exception), kind, row)
        self.same(desk.log(), log + both_ends(row))
        if line is None:
            self.assertIsNone(desk.line())
        else:
            self.assertTrue(desk.line() == line)

    def says(self, desk, row, due):
        log = desk.log()
        self.same(desk.say(row), due)
        self.same(desk.log(), log + (("in", row), ("out", row)))


class TestRows(Desks):

    def test_a_new_one(self):
        desk = Desk()
        self.assertIsNone(desk.line())
        self.same(desk.log(), ())
        with self.assertRaises(TypeError):
            Desk(5)

    def test_each_row(self):
        desk = Desk()
        self.says(desk, LINE, "ok")
        self.says(desk, "wait", "0 0")
        self.says(desk, "step 0:3 1:9m", "come 0 3 0, come 1 9 0, send 0 3 0")
        self.says(desk, "wait", "0 9")
        self.says(desk, "step -", "-")
        self.says(desk, "step -", "send 1 9 2")
        self.says(desk, "wait", "0 0")
        self.says(desk, "step -", "-")
        self.says(desk, "back", "ok")
        self.says(desk, "back", "ok")
        self.says(desk, "wait", "0 9")
        self.says(desk, "longest 0 10 9", "none")
        told = longest(TWO, 1, 5, (10, 1))
        self.says(desk, "longest 1 10 1", f"{told[0]} {told[1]}")
        self.says(desk, "ring 9 1 9 none ; 9 5 1", "1 5")
        self.says(desk, "ring 9 1 9 none / 2 9 none ; 9 5 1m / 1 1 1", "1 5")

    def test_a_ring_needs_no_line(self):
        desk = Desk()
        self.says(desk, "ring 9 1 9 none ; 9 5 1", "1 5")
        self.assertIsNone(desk.line())
        chance = random.Random(311)
        met = 0
        while met < 15:
            world = some_world(chance, chance.randint(1, 2), most=3)
            due = ModelRing(world).told
            row = "ring " + world_text(world)
            if due is None:
                self.refused(desk, TooLong, row)
            else:
                met += 1
                self.same(ring_of(world), due)
                self.says(desk, row, f"{due[0]} {due[1]}")

    def test_a_new_line_has_nothing_to_take_back(self):
        desk = Desk()
        self.says(desk, LINE, "ok")
        desk.say("step 0:3 0:9 0:9")
        self.says(desk, LINE, "ok")
        self.says(desk, "wait", "0 0")
        self.refused(desk, NoDeed, "back")
        self.assertTrue(desk.line() == Line(TWO, rate=5))

    def test_a_line_refused_leaves_the_elder_one(self):
        desk = Desk()
        desk.say(LINE)
        desk.say("step 0:3 0:9 0:9")
        for bad, kind in (("line 0 1 9 none", NoRate), ("line 5 0 9 none", NoText), ("line 5", NoText)):
            self.refused(desk, kind, bad)
            self.says(desk, "wait", "18 0")
        self.says(desk, "longest 1 10 1", " ".join(str(part) for part in longest(TWO, 1, 5, (10, 1))))
        self.says(desk, "back", "ok")

    def test_the_row_line_takes_each_form(self):
        chance = random.Random(313)
        for _ in range(60):
            desk = Desk()
            streams, rate = some_streams(chance), chance.randint(1, 99)
            self.says(desk, f"line {rate} {streams_text(streams)}", "ok")
            self.assertTrue(desk.line() == Line(streams, rate=rate))

    def test_by_chance_like_the_model(self):
        chance = random.Random(317)
        for _ in range(25):
            desk, model = Desk(), ModelDesk()
            for number in range(60):
                kind = chance.choice(("step", "step", "step", "step", "wait", "back", "longest", "new"))
                if number == 0 or (kind == "new" and chance.random() < 0.2):
                    streams, rate = some_streams(chance), chance.randint(1, 40)
                    row = f"line {rate} {streams_text(streams)}"
                    self.same(desk.say(row), model.say(row, "new", rate, streams))
                elif kind == "back":
                    if model.line.journal():
                        self.same(desk.say("back"), model.say("back", "back"))
                elif kind == "wait":
                    self.same(desk.say("wait"), model.say("wait", "wait"))
                elif kind == "longest":
                    numbers = (chance.randrange(len(model.streams)), chance.randint(1, 999), chance.randint(0, 9))
                    row = "longest " + " ".join(str(number) for number in numbers)
                    self.same(desk.say(row), model.say(row, "longest", *numbers))
                else:
                    comers = some_comers(chance, len(model.streams))
                    row = "step " + comers_text(comers)
                    self.same(desk.say(row), model.say(row, "step", comers))
                self.assertTrue(desk.line() == model.line)
            self.same(desk.log(), tuple(model.log))


class TestLine(Desks):

    def test_a_new_one_each_time(self):
        desk = Desk()
        desk.say(LINE)
        desk.say("step 0:3 0:9 1:9")
        line, other = desk.line(), desk.line()
        self.assertIsNot(line, other)
        self.assertTrue(line == other)
        self.assertIs(type(line), Line)
        self.same(line.journal(), ())
        self.same(line.diary(), ())
        self.assertRaises(NoDeed, line.back)

    def test_led_on_it_does_not_change_the_desk(self):
        desk = Desk()
        desk.say(LINE)
        desk.say("step 0:3 0:9 1:9")
        line = desk.line()
        before = (desk.say("wait"), desk.line().standing())
        line.step(((0, 9, False),) * 5)
        line.run(((), ()))
        self.same((desk.say("wait"), desk.line().standing()), before)
        desk.say("step -")
        self.assertFalse(desk.line() == line)
        self.same(desk.say("back"), "ok")
        self.same(desk.line().standing(), before[1])

    def test_desks_beside_lines_and_beside_desks(self):
        chance = random.Random(331)
        for _ in range(15):
            streams, rate = some_streams(chance), chance.randint(1, 40)
            desk, other, line = Desk(), Desk(), Line(streams, rate=rate)
            desk.say(f"line {rate} {streams_text(streams)}")
            for _ in range(20):
                comers = some_comers(chance, len(streams))
                self.same(desk.say("step " + comers_text(comers)), rows_text(line.step(comers)))
                self.same(desk.line().standing(), line.standing())
                self.same(desk.say("wait"), " ".join(str(many) for many in line.waiting()))
            self.same((other.log(), other.line()), ((), None))
            for _ in range(20):
                desk.say("back")
            self.same(desk.line().standing(), first_standing(streams))
            self.refused(desk, NoDeed, "back")


class TestRefusals(Desks):

    def desks(self):
        desk = Desk()
        desk.say(LINE)
        desk.say("step 0:3 0:9 0:9")
        return (Desk(), desk)

    def test_rows_of_no_form(self):
        for desk in self.desks():
            for row in NO_ROWS:
                self.refused(desk, NoText, row)

    def test_what_is_no_text(self):
        for desk in self.desks():
            for thing in things() + [b"wait", ("wait",), ["wait"], {"wait": 1}, None, 5]:
                self.refused(desk, NoText, thing)

    def test_no_line_behind_no_text(self):
        desk = Desk()
        for row in ("wait", "back", "step -", "step 0:3", "step 7:9m", "step " + " ".join(["7:1"] * 64), "longest 0 1 1",
                    "longest 9 0 100", f"longest {FORTY} {FORTY} {FORTY}"):
            self.refused(desk, NoLine, row)
        for row in ("wait ", "back ", "step", "step 7:9 ", "longest 9 0", "longest 9 0 1 1"):
            self.refused(desk, NoText, row)
        desk.say("ring " + WORLD)
        self.refused(desk, NoLine, "wait")
        self.refused(desk, NoRate, "line 0 1 9 none")
        self.refused(desk, NoLine, "wait")

    def test_as_the_things_themselves_refuse(self):
        _, desk = self.desks()
        for row in ("step 2:1", "step 7:9", "step 7:9m", "step 0:1 2:1", "step " + " ".join(["2:1"] * 64)):
            self.refused(desk, NoComers, row)
        for row in ("longest 2 1 1", f"longest {FORTY} 1 1", "longest 2 0 1", "longest 8 0 100"):
            self.refused(desk, NoNumber, row)
        for row in ("longest 0 0 1", "longest 0 1000 1", "longest 0 1 100", f"longest 1 {FORTY} 1", f"longest 1 1 {FORTY}"):
            self.refused(desk, NoBucket, row)

    def test_streams_that_nothing_writes(self):
        for desk in self.desks():
            for streams in NO_STREAMS:
                with self.assertRaises(NoText):
                    read_streams(streams)
                for rate in ("5", "0", FORTY):
                    self.refused(desk, NoText, f"line {rate} {streams}")
                    for senders in ("1 5 8", "0 5 8", f"1 {FORTY} 8", " / ".join(["1 5 8"] * len(streams.split(" / ")))):
                        self.refused(desk, NoText, f"ring {rate} {streams} ; {senders}")

    def test_comers_that_nothing_writes(self):
        for desk in self.desks():
            for comers in NO_COMERS:
                with self.assertRaises(NoText):
                    read_comers(comers)
                self.refused(desk, NoText, "step " + comers)

    def test_no_rate(self):
        for desk in self.desks():
            for rate in ("0", "100", "999", FORTY):
                for streams in ("1 9 none", "1 9 none / 2 40 late 5 40", " / ".join(["1 9 none"] * 8)):
                    self.refused(desk, NoRate, f"line {rate} {streams}")
            for row in (f"line {FORTY}9 0 9 none", "line 0 1 9 non", "line 0 01 9 none", "line 0"):
                self.refused(desk, NoText, row)

    def test_no_rate_ahead_of_no_world(self):
        for desk in self.desks():
            for rate in ("0", "100", "999", FORTY):
                for behind in ("1 9 none ; 1 5 8", "1 9 none ; 0 5 8", f"1 9 none ; 1 {FORTY} 8", "1 9 none / 1 9 none ; 1 5 8",
                               " / ".join(["1 9 none"] * 8) + " ; " + " / ".join(["1 5 8"] * 8)):
                    self.refused(desk, NoRate, f"ring {rate} {behind}")
            for row in ("ring 0 1 9 none ; 1 5", "ring 0 1 9 none", "ring 0 1 9 none ; 1 5 08", f"ring 0 1 9 none ; 1 5 {FORTY}9"):
                self.refused(desk, NoText, row)

    def test_no_world(self):
        for desk in self.desks():
            for world in ("9 1 9 none ; 0 5 8", "9 1 9 none ; 10 5 8", "9 1 9 none ; 1 0 8", "9 1 9 none ; 1 21 8",
                          "9 1 9 none ; 1 5 0", "9 1 9 none ; 1 5 17m", "9 1 9 none / 1 9 none ; 1 5 8",
                          "9 1 9 none ; 1 5 8 / 1 5 8", " / ".join(["9 1 9 none"] + ["1 9 none"] * 4) + " ; "
                          + " / ".join(["1 5 8"] * 5), f"9 1 9 none ; 1 {FORTY} 8m", f"9 1 9 none ; {FORTY} 5 8",
                          f"9 1 9 none ; 1 5 {FORTY}", "9 1 9 none ; " + " / ".join(["1 5 8"] * 9)):
                self.refused(desk, NoWorld, "ring " + world)
            self.refused(desk, TooLong, LONG)
        # Where no row tells it, the rate is a part of the world, as any other.
        with self.assertRaises(NoWorld):
            ring_of(((PLAIN,), 0, ((1, False, 5, 8),)))

    def test_a_refused_row_changes_nothing(self):
        _, desk = self.desks()
        for row in NO_ROWS[::7] + ("step 2:1", "line 0 1 9 none", "longest 2 1 1", LONG, "ring 0 1 9 none ; 1 5 8"):
            self.refused(desk, {"step 2:1": NoComers, "line 0 1 9 none": NoRate, "longest 2 1 1": NoNumber, LONG: TooLong,
                                "ring 0 1 9 none ; 1 5 8": NoRate}.get(row, NoText), row)
        self.says(desk, "wait", "18 0")
        self.says(desk, "back", "ok")
        self.refused(desk, NoDeed, "back")
        self.says(desk, "step -", "-")


class TestMany(Desks):

    def test_rows_one_behind_another(self):
        desk, other = Desk(), Desk()
        rows = (LINE, "step 0:3 1:9m", "wait", "back", "wait", "ring 9 1 9 none ; 9 5 1", "longest 0 10 9")
        told = desk.many(rows)
        self.same(told, ("ok", "come 0 3 0, come 1 9 0, send 0 3 0", "0 9", "ok", "0 0", "1 5", "none"))
        self.same(told, tuple(other.say(row) for row in rows))
        self.same(desk.log(), other.log())
        self.same(desk.many(()), ())
        self.same(desk.log(), other.log())

    def test_up_to_the_first_refused(self):
        for bad, kind in (("step 2:1", NoComers), ("step", NoText), (5, NoText), (None, NoText), ("line 0 1 9 none", NoRate),
                          (LONG, TooLong), ((), NoText), (("wait",), NoText), ("longest 0 0 0", NoBucket)):
            desk = Desk()
            with self.assertRaises(errors.LineError) as caught:
                desk.many((LINE, "step 0:9 0:9", bad, "step 0:9", "wait"))
            self.assertIs(type(caught.exception), kind)
            self.same(desk.log(), both_ends(LINE, "step 0:9 0:9", bad))
            self.says(desk, "wait", "18 0")

    def test_of_no_tuple(self):
        for thing in things() + ["wait", ["wait"], [LINE], {LINE: 1}, None]:
            if isinstance(thing, tuple):
                continue
            desk = Desk()
            desk.say(LINE)
            with self.assertRaises(NoText):
                desk.many(thing)
            # Nothing was said.
            self.same(desk.log(), both_ends(LINE))

    def test_tuples_of_no_texts(self):
        for thing in things():
            desk = Desk()
            if isinstance(thing, tuple) and thing:
                with self.assertRaises(NoText):
                    desk.many(thing)
                self.same(desk.log(), both_ends(thing[0]))


class TestLog(Desks):

    def test_all_of_it_refused_too(self):
        desk = Desk()
        due = []
        for row, good in (("wait", False), (LINE, True), ("step", False), ("step 0:3", True), ("", False), ("back", True),
                          ("back", False), ("line 0 1 9 none", False), ("line 5 0 9 none", False), (None, False),
                          (("wait",), False), ("step 7:1", False), ("wait", True), (LINE.upper(), False), ("x\n", False)):
            try:
                desk.say(row)
                self.assertTrue(good, row)
            except errors.LineError:
                self.assertFalse(good, row)
            text = row if isinstance(row, str) else ""
            due += [("in", text), ("out", text)]
            self.same(desk.log(), tuple(due))

    def test_what_the_log_has_is_the_row_and_no_answer(self):
        desk = Desk()
        desk.say(LINE)
        desk.say("step 0:3")
        self.same(desk.log(), (("in", LINE), ("out", LINE), ("in", "step 0:3"), ("out", "step 0:3")))
        desk = Desk()
        with self.assertRaises(NoLine):
            desk.say("wait")
        self.same(desk.log(), (("in", "wait"), ("out", "wait")))
        desk = Desk()
        with self.assertRaises(NoText):
            desk.say(None)
        self.same(desk.log(), (("in", ""), ("out", "")))

    def test_what_it_told_stays_as_it_was(self):
        desk = Desk()
        desk.say(LINE)
        told = desk.log()
        before = repr(told)
        desk.say("wait")
        self.same(repr(told), before)
        self.same(len(desk.log()), 4)


if __name__ == "__main__":
    unittest.main()
