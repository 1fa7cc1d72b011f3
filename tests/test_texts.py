"""What is written, and what is read of it."""

import random
import re
import unittest

from waitmark.base.comers import are_comers
from waitmark.desk.texts import (comers_text, read_comers, read_rule, read_streams, rows_text, rule_text, streams_text)
from waitmark.errors import NoComers, NoRule, NoStreams, NoText
from waitmark.lanes.lanes import is_stream
from waitmark.lanes.rules import is_rule
from waitmark.line.line import Line
from tests.things import Case, some_comers, some_rule, some_run, some_streams, spoilt, spoilt_deep, things

NUMBER = "(0|[1-9][0-9]{0,39})"
RULE = f"(none|late {NUMBER} {NUMBER}|share {NUMBER} {NUMBER} {NUMBER} {NUMBER})"
COMER = f"{NUMBER}:{NUMBER}(m?)"
RULES = ("none", "late 5 40", "late 1 1", "late 99 99", "share 5 4 20 30", "share 1 1 0 0", "share 99 99 999 999")
STREAMS = ("1 9 none", "1 9 none / 2 40 late 5 40", "9 99 share 99 99 999 999 / 1 1 none / 1 1 late 1 1",
           " / ".join(["1 9 none"] * 8))
COMERS = ("-", "0:3", "0:3 1:9m", "7:9m 7:9m 0:1", " ".join(["7:9m"] * 64))
SIGNS = "0123456789 /:;,-m\t\n\r\v\f\u00a0\u2003\u0660\u06f5\u00b2\uff11\u0967+_.xN"


def fit_streams(thing):
    return type(thing) is tuple and 1 <= len(thing) <= 8 and all(is_stream(stream) for stream in thing)


def model_rule(text):
    """The rule that is so written, or None: put down once more, sign by sign."""
    if type(text) is not str or not re.fullmatch(RULE, text):
        return None
    word, *numbers = text.split()
    rule = (word,) + tuple(int(number) for number in numbers)
    return rule if is_rule(rule) else None


def model_streams(text):
    if type(text) is not str or not re.fullmatch(f"{NUMBER} {NUMBER} {RULE}( / {NUMBER} {NUMBER} {RULE})*", text):
        return None
    streams = []
    for part in text.split("/"):
        weight, limit, word, *numbers = part.split()
        streams.append((int(weight), (word,) + tuple(int(number) for number in numbers), int(limit)))
    return tuple(streams) if fit_streams(tuple(streams)) else None


def model_comers(text):
    if text == "-":
        return ()
    if type(text) is not str or not re.fullmatch(f"{COMER}( {COMER})*", text):
        return None
    comers = tuple((int(stream), int(size), can == "m") for stream, size, can in re.findall(COMER, text))
    return comers if are_comers(8, comers) else None


READERS = ((read_rule, model_rule, RULES), (read_streams, model_streams, STREAMS), (read_comers, model_comers, COMERS))


def spoilt_texts(text):
    """The text with a sign out, in, twice, or another one, and with more ahead or behind."""
    for at in range(len(text) + 1):
        for sign in SIGNS:
            yield text[:at] + sign + text[at:]
            yield text[:at] + sign + text[at + 1:]
        yield text[:at] + text[at + 1:]
        yield text[:at]
        yield text[at:]
    for more in (" ", "  ", "\n", "\r\n", "\t", "0", "00", " 0", "-", "\ufeff", "\x00", "none", " / ", " /", "/ ", " -"):
        yield more + text
        yield text + more
        yield text.replace(" ", more)
    yield text.upper()
    yield text.title()
    yield text[::-1]
    yield text + text
    yield text + " " + text


class TestWritten(Case):

    def test_rules(self):
        self.tells("none", rule_text, ("none",))
        self.tells("late 5 40", rule_text, ("late", 5, 40))
        self.tells("share 5 4 20 0", rule_text, ("share", 5, 4, 20, 0))

    def test_streams(self):
        self.tells("1 9 none / 2 40 late 5 40", streams_text, ((1, ("none",), 9), (2, ("late", 5, 40), 40)))
        self.tells("9 99 share 1 2 3 4", streams_text, ((9, ("share", 1, 2, 3, 4), 99),))

    def test_comers(self):
        self.tells("-", comers_text, ())
        self.tells("0:3 1:9m", comers_text, ((0, 3, False), (1, 9, True)))
        self.tells(" ".join(["7:9m"] * 64), comers_text, ((7, 9, True),) * 64)

    def test_rows(self):
        self.tells("-", rows_text, ())
        self.tells("send 0 3 7", rows_text, (("send", 0, 3, 7),))
        self.tells("come 0 3 0, full 1 9 0, bell 7 1 1000000", rows_text,
                   (("come", 0, 3, 0), ("full", 1, 9, 0), ("bell", 7, 1, 10 ** 6)))

    def test_rows_of_a_line(self):
        chance = random.Random(283)
        for _ in range(20):
            streams = some_streams(chance)
            for rows in Line(streams, rate=9).run(some_run(chance, len(streams), 20)):
                due = ", ".join(f"{row[0]} {row[1]} {row[2]} {row[3]}" for row in rows) or "-"
                self.tells(due, rows_text, rows)


class TestRead(Case):

    def test_there_and_back(self):
        chance = random.Random(293)
        for _ in range(200):
            rule, streams, comers = some_rule(chance), some_streams(chance), some_comers(chance, 8, 64)
            self.tells(rule, read_rule, rule_text(rule))
            self.tells(streams, read_streams, streams_text(streams))
            self.tells(comers, read_comers, comers_text(comers))
        for text in RULES:
            self.tells(text, rule_text, read_rule(text))
        for text in STREAMS:
            self.tells(text, streams_text, read_streams(text))
        for text in COMERS:
            self.tells(text, comers_text, read_comers(text))

    def test_kinds_too(self):
        self.tells(("late", 5, 40), read_rule, "late 5 40")
        self.tells(("none",), read_rule, "none")
        self.tells(((1, ("none",), 9), (2, ("late", 5, 40), 40)), read_streams, "1 9 none / 2 40 late 5 40")
        self.tells(((0, 3, False), (1, 9, True)), read_comers, "0:3 1:9m")
        self.tells((), read_comers, "-")

    def test_texts_spoilt_in_one_place(self):
        for read, model, texts in READERS:
            for text in texts:
                if len(text) > 60:
                    continue
                self.tells(model(text), read, text)
                for bad in spoilt_texts(text):
                    due = model(bad)
                    if due is None:
                        self.refuses(NoText, read, bad)
                    else:
                        self.tells(due, read, bad)

    def test_texts_spoilt_in_two_places(self):
        chance = random.Random(307)
        for read, model, texts in READERS:
            for text in texts:
                for _ in range(300):
                    bad = text
                    for _ in range(2):
                        at = chance.randint(0, len(bad))
                        bad = bad[:at] + chance.choice((chance.choice(SIGNS), "")) + bad[at + chance.randint(0, 1):]
                    due = model(bad)
                    if due is None:
                        self.refuses(NoText, read, bad)
                    else:
                        self.tells(due, read, bad)

    def test_numbers_beside_their_bounds(self):
        for bad in ("late 0 5", "late 5 0", "late 100 5", "late 5 100", "late 5", "late 5 5 5", "late", "share 5 4 20",
                    "share 0 1 1 1", "share 1 0 1 1", "share 1 1 1000 1", "share 1 1 1 1000", "share 1 1 1 1 1", "none 0",
                    "Late 5 5", "late 05 5", "late 5 00", "late +5 5", "late -5 5", "late 5 5.0", "late 5_0 5", ""):
            self.refuses(NoText, read_rule, bad)
        for bad in ("0 9 none", "10 9 none", "1 0 none", "1 100 none", "1 9", "1 none 9", "none", "9 none", "1 9 none 9",
                    "1 9 late 0 5", "1 9 none/2 9 none", "1 9 none / ", " / 1 9 none", "1 9 none /  2 9 none", "", "-",
                    "1 9 none / / 1 9 none", "1 9 none , 2 9 none", " / ".join(["1 9 none"] * 9), "01 9 none"):
            self.refuses(NoText, read_streams, bad)
        for bad in ("8:1", "0:0", "0:10", "0:1mm", "0:1M", "m", "0:m", ":1", "0:", "0", "0:1:1", "0 :1", "0: 1", "0:1 m",
                    "0:1  1:1", " 0:1", "0:1 ", "00:1", "0:01", "0:1,1:1", "- -", "- 0:1", "0:1 -", "--", "", " ", "0m:1",
                    " ".join(["0:1"] * 65), "0:1\n", "-\n"):
            self.refuses(NoText, read_comers, bad)

    def test_forty_and_forty_one_figures(self):
        for figures in (1, 2, 39, 40, 41, 400):
            number = "1" * figures
            self.refuses(NoText, read_rule, f"late {number}00 5")
            self.refuses(NoText, read_rule, f"late 5 {'9' * max(figures, 3)}")
            self.refuses(NoText, read_streams, f"1 {'9' * max(figures, 3)} none")
            self.refuses(NoText, read_comers, f"0:1{number}")
            self.refuses(NoText, read_comers, f"9{number}:1")
            self.refuses(NoText, read_rule, f"late {'0' * figures}5 40")
        self.refuses(NoText, read_rule, "late " + "5" * 100000 + " 40")

    def test_what_another_reader_reads(self):
        for read, model, texts in READERS:
            for other, _, others in READERS:
                for text in others:
                    if other is not read:
                        self.refuses(NoText, read, text)
            self.refuses(NoText, read, "send 0 3 7")

    def test_signs_and_figures_of_other_scripts(self):
        for figure in "\u0661\u06f1\u0967\uff11\u00b9\u2460\u2160\u09e7":
            self.refuses(NoText, read_rule, f"late {figure} 40")
            self.refuses(NoText, read_rule, f"late 5 4{figure}")
            self.refuses(NoText, read_streams, f"{figure} 9 none")
            self.refuses(NoText, read_comers, f"0:{figure}")
            self.refuses(NoText, read_comers, f"{figure}:1")
        for blank in "\u00a0\u2003\u3000\t\n\r\v\f\x1c\u2028\u200b":
            self.refuses(NoText, read_rule, f"late{blank}5 40")
            self.refuses(NoText, read_rule, f"late 5{blank}40")
            self.refuses(NoText, read_streams, f"1 9 none{blank}/ 2 9 none")
            self.refuses(NoText, read_comers, f"0:1{blank}0:1")
        self.refuses(NoText, read_comers, "0\uff1a1")
        self.refuses(NoText, read_comers, "\u2212")
        self.refuses(NoText, read_comers, "\u2013")
        self.refuses(NoText, read_rule, "n\u043ene")


class TestRefusals(Case):

    def test_what_is_no_text(self):
        for read, model, _ in READERS:
            for thing in things() + [b"none", b"-", ("none",), ["none"], ["-"], {"none": 1}, 5, None, True]:
                due = model(thing) if isinstance(thing, str) else None
                if due is None:
                    self.refuses(NoText, read, thing)

    def test_what_is_no_rule(self):
        for thing in things() + [bad for rule in (("late", 5, 40), ("none",)) for bad in spoilt(rule)]:
            if not is_rule(thing):
                self.refuses(NoRule, rule_text, thing)

    def test_what_are_no_streams(self):
        for thing in things() + list(spoilt_deep(((1, ("none",), 9), (2, ("late", 5, 40), 40)))) + [()]:
            if not fit_streams(thing):
                self.refuses(NoStreams, streams_text, thing)
        self.refuses(NoStreams, streams_text, ((1, ("none",), 9),) * 9)

    def test_what_are_no_comers(self):
        for thing in things() + list(spoilt_deep(((0, 3, False), (1, 9, True)))):
            if not are_comers(8, thing):
                self.refuses(NoComers, comers_text, thing)
        self.refuses(NoComers, comers_text, ((0, 1, False),) * 65)
        self.refuses(NoComers, comers_text, ((8, 1, False),))


if __name__ == "__main__":
    unittest.main()
