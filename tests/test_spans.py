"""Busy streams, spans, and how far apart two streams are in them."""

import random
import unittest

from waitmark.base.comers import is_run
from waitmark.errors import NoNumber, NoRate, NoRun, NoStanding, NoStreams
from waitmark.lanes.turns import first_standing, is_standing
from waitmark.line.spans import apart, bound, busy, most_apart
from waitmark.line.steps import stepped
from tests.things import FORTY, Case, Model, some_run, some_standing, some_streams, spoilt, things, within

NONE = ("none",)
ONE = (1, NONE, 99)
TWO = (ONE, (3, NONE, 99))
FIRST = first_standing(TWO)
FULL = tuple((at % 2, 9, False) for at in range(40))
RUN = (FULL,) + ((),) * 5


def model_told(streams, rate, standing, run):
    """The busy ones of each tick, and the units each sends."""
    model, told = Model(streams, standing), []
    for comers in run:
        rows = model.step(rate, comers)
        sent = [sum(row[2] for row in rows if row[1] == number and row[0] in ("send", "bell"))
                for number in range(len(streams))]
        told.append((tuple(number for number in range(len(streams)) if model.queues[number]), sent))
    return told


def model_spans(told, one, other):
    """All spans of two streams."""
    both = [one in here and other in here for here, _ in told]
    return [(begin, end) for begin in range(len(told)) for end in range(begin, len(told))
            if all(both[begin:end + 1])]


def model_apart(streams, told, one, other, span):
    parts = told[span[0]:span[1] + 1]
    return abs(sum(sent[one] for _, sent in parts) * streams[other][0]
               - sum(sent[other] for _, sent in parts) * streams[one][0])


def model_most(streams, told):
    """The most apart, by going through all spans of any two."""
    found = [(-model_apart(streams, told, one, other, span), one, other) + span
             for one in range(len(streams)) for other in range(one + 1, len(streams))
             for span in model_spans(told, one, other)]
    return (-min(found)[0],) + min(found)[1:] if found else None


def some_line(chance, ticks=14):
    streams = some_streams(chance, chance.randint(2, 5))
    standing = first_standing(streams) if chance.random() < 0.5 else some_standing(chance, streams)
    return streams, chance.choice((1, 5, 9, 20, 40)), standing, some_run(chance, len(streams), ticks, most=10)


class TestBusy(Case):

    def test_by_hand(self):
        run = (((1, 9, False), (0, 9, False)), (), ((0, 1, False),), ((0, 9, False),) * 2, ())
        # What has pieces behind a step is busy in it, whether it sends or not.
        self.tells(((0,), (), (), (0,), ()), busy, TWO, 9, FIRST, run)
        self.tells(((0, 1), (0,), (), (0,), (0,)), busy, TWO, 7, FIRST, run)
        self.tells(((0, 1),) * 5, busy, TWO, 1, FIRST, run)
        self.tells(((),) * 5, busy, TWO, 99, FIRST, run)
        self.tells((), busy, TWO, 9, FIRST, ())

    def test_rising_whatever_the_ring(self):
        streams = (ONE,) * 4
        run = (((3, 9, False), (1, 9, False), (2, 9, False)), ((0, 9, False),))
        self.tells(((1, 2, 3), (0, 1, 2, 3)), busy, streams, 1, first_standing(streams), run)

    def test_like_the_model_tick_by_tick(self):
        chance = random.Random(113)
        for _ in range(60):
            streams, rate, standing, run = some_line(chance)
            told = model_told(streams, rate, standing, run)
            self.tells(tuple(here for here, _ in told), busy, streams, rate, standing, run)
            now = standing
            for comers, (here, _) in zip(run, told):
                now, _ = stepped(streams, rate, now, comers)
                self.same(here, tuple(number for number, lane in enumerate(now[3]) if lane[1]))


class TestApart(Case):

    def test_by_hand(self):
        # Stream 0 sends 9, stream 1 three times 9, again and again, each begun turn up to the budget of 9 a tick.
        for span, due in (((0, 0), 27), ((0, 1), 18), ((0, 2), 9), ((0, 3), 0), ((1, 1), 9), ((1, 3), 27),
                          ((0, 4), 27), ((4, 4), 27), ((5, 5), 9), ((0, 5), 18), ((1, 4), 0)):
            self.tells(due, apart, TWO, 9, FIRST, RUN, 0, 1, span)
            self.tells(due, apart, TWO, 9, FIRST, RUN, 1, 0, span)
        self.tells((27, 0, 1, 0, 0), most_apart, TWO, 9, FIRST, RUN)

    def test_like_the_model_either_one_first(self):
        chance = random.Random(127)
        many = 0
        for _ in range(60):
            streams, rate, standing, run = some_line(chance)
            told = model_told(streams, rate, standing, run)
            one, other = chance.sample(range(len(streams)), 2)
            spans = model_spans(told, one, other)
            for span in chance.sample(spans, min(6, len(spans))):
                many += 1
                due = model_apart(streams, told, one, other, span)
                self.tells(due, apart, streams, rate, standing, run, one, other, span)
                self.tells(due, apart, streams, rate, standing, run, other, one, span)
                self.assertLessEqual(due, bound(streams, one, other))
        self.assertGreater(many, 80)

    def test_ticks_in_which_not_both_are_busy_are_in_no_span(self):
        chance = random.Random(131)
        for _ in range(12):
            streams, rate, standing, run = some_line(chance, ticks=7)
            told = model_told(streams, rate, standing, run)
            one, other = chance.sample(range(len(streams)), 2)
            spans = model_spans(told, one, other)
            for begin in range(-2, 9):
                for end in range(-2, 9):
                    span = (begin, end)
                    if span in spans:
                        due = model_apart(streams, told, one, other, span)
                        self.same(apart(streams, rate, standing, run, one, other, span), due)
                    else:
                        self.refuses(NoNumber, apart, streams, rate, standing, run, one, other, span)

    def test_spans_that_are_none(self):
        self.tells(18, apart, TWO, 9, FIRST, RUN, 0, 1, (0, 1))
        bad = [(1, 0), (0, 6), (6, 6), (-1, 0), (-1, -1), (-2, -1), (0, FORTY), (FORTY, FORTY), (-FORTY, 0), (5, 4)]
        bad += [[0, 1], (0,), (0, 1, 2), (0, 1, None), (), 0, None, (False, True), (0, True), (False, 1), ("0", "1"),
                ((0, 1),), (0, None), (None, 0), ((0,), (1,)), "01", {0: 1}, {0: 0, 1: 1}, ([], 0), (0, {})]
        for span in bad + [thing for thing in things() if thing != (1, 2)] + list(spoilt((0, 1))):
            if span == (0, 1) and repr(span) == "(0, 1)":
                continue
            self.refuses(NoNumber, apart, TWO, 9, FIRST, RUN, 0, 1, span)


class TestBound(Case):

    def test_by_hand(self):
        self.tells(9 + 16, bound, (ONE, ONE), 0, 1)
        self.tells(27 + 32, bound, TWO, 0, 1)
        self.tells(27 + 32, bound, TWO, 1, 0)
        self.tells(729 + 144, bound, ((9, NONE, 1),) * 8, 7, 0)
        for one in range(1, 10):
            for other in range(1, 10):
                streams = ((5, NONE, 9), (one, NONE, 9), (other, ("late", 1, 1), 9))
                self.tells(9 * one * other + 8 * (one + other), bound, streams, 1, 2)

    def test_the_most_apart_is_never_more(self):
        chance = random.Random(137)
        for _ in range(80):
            streams, rate, standing, run = some_line(chance, ticks=30)
            told = most_apart(streams, rate, standing, run)
            if told is not None:
                self.assertLessEqual(told[0], bound(streams, told[1], told[2]))


class TestMostApart(Case):

    def test_none_where_no_two_are_busy_in_one_tick(self):
        self.tells(None, most_apart, TWO, 9, FIRST, ())
        self.tells(None, most_apart, TWO, 9, FIRST, ((),) * 9)
        self.tells(None, most_apart, (ONE,), 9, first_standing((ONE,)), (((0, 9, False),) * 60,) * 9)
        # One is busy in a tick, the other in the next one.
        run = (((0, 9, False),), ((1, 9, False),))
        self.tells(((0,), (1,)), busy, TWO, 8, FIRST, run)
        self.tells(None, most_apart, TWO, 8, FIRST, run)

    def test_the_least_of_several_that_are_as_far_apart(self):
        streams = (ONE,) * 3
        # Nothing is sent at all: all spans of all pairs are 0 apart.
        run = (((2, 9, False), (1, 9, False), (0, 9, False)),) + ((),) * 3
        self.tells((0, 0, 1, 0, 0), most_apart, streams, 1, first_standing(streams), run)
        run = (((2, 9, False), (1, 9, False)), ((0, 9, False),)) + ((),) * 3
        self.tells((0, 0, 1, 1, 1), most_apart, streams, 1, first_standing(streams), run)
        run = (((2, 9, False), (1, 9, False)), ()) + ((),) * 3
        self.tells((0, 1, 2, 0, 0), most_apart, streams, 1, first_standing(streams), run)

    def test_a_later_span_that_is_further_apart_either_way(self):
        streams = ((1, NONE, 9),) * 2
        nines, mixed = ((9, False, False, 0),) * 5, ((9, False, False, 0), (8, False, False, 0)) * 2
        # The first of the ring sends 9; the other one kept 8, and sends 9 and 8 in the two ticks behind.
        lanes = ((0, nines, ()), (8, mixed, ()))
        self.tells((17, 0, 1, 1, 2), most_apart, streams, 9, (0, False, (0, 1), lanes), ((),) * 4)
        self.tells((17, 0, 1, 1, 2), most_apart, streams, 9, (0, False, (1, 0), lanes[::-1]), ((),) * 4)

    def test_like_the_model_through_all_spans(self):
        chance = random.Random(139)
        later, none = 0, 0
        for _ in range(150):
            streams, rate, standing, run = some_line(chance, ticks=chance.choice((1, 2, 5, 14, 20)))
            due = model_most(streams, model_told(streams, rate, standing, run))
            self.tells(due, most_apart, streams, rate, standing, run)
            none += due is None
            if due is not None:
                later += 0 < due[3] < due[4]
                self.tells(due[0], apart, streams, rate, standing, run, due[1], due[2], due[3:])
        self.assertGreater(later, 20)
        self.assertGreater(none, 5)

    def test_a_long_run(self):
        chance = random.Random(149)
        streams = ((1, NONE, 99), (9, ("late", 1, 1), 9), (4, ("share", 5, 5, 9, 9), 20), (5, NONE, 3))
        run = some_run(chance, 4, 400, most=12)
        told = most_apart(streams, 30, first_standing(streams), run)
        self.same(told[0], apart(streams, 30, first_standing(streams), run, told[1], told[2], told[3:]))
        due = model_told(streams, 30, first_standing(streams), run)
        leads = {}
        for one in range(4):
            for other in range(one + 1, 4):
                for begin in range(400):
                    lead = 0
                    for end in range(begin, 400):
                        here, sent = due[end]
                        if one not in here or other not in here:
                            break
                        lead += sent[one] * streams[other][0] - sent[other] * streams[one][0]
                        if abs(lead) >= told[0]:
                            leads[(-abs(lead), one, other, begin, end)] = True
        self.same((-min(leads)[0],) + min(leads)[1:], told)


class TestRefusals(Case):

    def refuses_all(self, kind, *args):
        calls = ((busy, ()), (most_apart, ()), (apart, (0, 1, (0, 0))), (apart, (0, 0, None)), (apart, (None, 9, 9)))
        for function, more in calls:
            refused = self.refuses(kind, function, *args, *more)
            if kind is NoRun:
                self.same(refused.number, 0)

    def test_by_the_argument_handed_in_first(self):
        for streams in things() + [(), [ONE], ONE, (ONE,) * 9]:
            for rest in ((9, FIRST, RUN), (0, None, None)):
                self.refuses_all(NoStreams, streams, *rest)
            for one, other in ((0, 1), (None, None), (0, 0)):
                self.refuses(NoStreams, bound, streams, one, other)
        for rate in things():
            if not within(rate, 1, 99):
                for rest in ((FIRST, RUN), (None, None)):
                    self.refuses_all(NoRate, TWO, rate, *rest)
        for standing in things() + list(spoilt(FIRST)) + [first_standing((ONE,))]:
            if not is_standing(TWO, standing):
                for run in (RUN, None):
                    self.refuses_all(NoStanding, TWO, 9, standing, run)
        for run in things() + list(spoilt(RUN)) + [((),) * 401, [()], (((2, 1, True),),)]:
            if not is_run(2, run):
                self.refuses_all(NoRun, TWO, 9, FIRST, run)

    def test_one_stream_twice_and_streams_that_are_not_there(self):
        self.tells(27, apart, TWO, 9, FIRST, RUN, 0, 1, (0, 0))
        for one, other in ((0, 0), (1, 1), (0, 2), (2, 0), (-1, 0), (0, -1), (8, 9), (2, 3), (-1, -2)):
            for span in ((0, 0), None):
                self.refuses(NoNumber, apart, TWO, 9, FIRST, RUN, one, other, span)
            self.refuses(NoNumber, bound, TWO, one, other)
        for thing in things():
            if not within(thing, 0, 1):
                for pair in ((thing, 0), (thing, 1), (0, thing), (1, thing), (thing, thing)):
                    self.refuses(NoNumber, apart, TWO, 9, FIRST, RUN, *pair, (0, 0))
                    self.refuses(NoNumber, bound, TWO, *pair)


if __name__ == "__main__":
    unittest.main()
