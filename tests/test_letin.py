"""Loads, buckets, and how long a let-in stream waits at most."""

import random
import unittest

from waitmark.errors import NoBucket, NoLoad, NoNumber, NoRate, NoStreams
from waitmark.lanes.lanes import is_stream
from waitmark.line.journals import strikes, waits
from waitmark.line.line import Line
from waitmark.small.letin import least_depth, longest, over
from tests.things import FORTY, Case, some_standing, some_streams, spoilt, spoilt_deep, things, within

NONE = ("none",)
PLAIN = (1, NONE, 99)


def fits_load(thing):
    return type(thing) is tuple and len(thing) <= 400 and all(within(come, 0, 999) for come in thing)


def fits_bucket(thing):
    return type(thing) is tuple and len(thing) == 2 and within(thing[0], 1, 999) and within(thing[1], 0, 99)


def fit_streams(thing):
    return type(thing) is tuple and 1 <= len(thing) <= 8 and all(is_stream(stream) for stream in thing)


def spans(load, gain):
    """All spans, the least b ahead, of these the greatest a: (a, b, the units above the gain)."""
    for end in range(len(load)):
        come = 0
        for begin in range(end, -1, -1):
            come += load[begin]
            yield begin, end, come - gain * (end - begin)


def model_over(load, depth, gain):
    return next(((begin, end) for begin, end, come in spans(load, gain) if come > depth), None)


def model_least(load, gain):
    depth = max([1] + [come for _, _, come in spans(load, gain)])
    return (depth, next(((begin, end) for begin, end, come in spans(load, gain) if come == depth), None))


def model_longest(streams, stream, rate, depth, gain):
    weight = streams[stream][0]
    if gain * sum(each[0] for each in streams) > rate * weight:
        return None
    told = []
    for more in range(9 * weight):
        units = depth + gain * more
        ahead = 8 + units
        for number, each in enumerate(streams):
            if number != stream:
                ahead += 9 * each[0] * ((units + 8) // (9 * weight) + 1) + 8
        told.append((ahead // rate - more, -more))
    wait, more = max(told)
    return (wait, -more)


def some_load(chance, many):
    kind = chance.choice(("any", "few", "noughts", "bursts", "steady"))
    if kind == "any":
        return tuple(chance.randint(0, 999) for _ in range(many))
    if kind == "few":
        return tuple(chance.randint(0, 9) for _ in range(many))
    if kind == "noughts":
        return tuple(chance.choice((0, 0, 0, 0, 1, 5)) for _ in range(many))
    if kind == "bursts":
        return tuple(chance.choice((0, 0, 0, 999)) for _ in range(many))
    return (chance.randint(0, 99),) * many


class TestOver(Case):

    def test_ordinary_loads(self):
        self.tells(None, over, (3, 3, 3), (3, 3))
        self.tells((0, 0), over, (4, 3, 3), (3, 3))
        self.tells((0, 1), over, (3, 4, 3), (4, 2))
        self.tells(None, over, (3, 4, 3), (4, 3))
        self.tells((0, 1), over, (2, 2, 2), (3, 0))
        self.tells((1, 1), over, (0, 9, 9), (8, 0))

    def test_the_least_b_and_of_its_a_the_greatest(self):
        # Up to tick 2 more come from 0, from 1 and from 2 on.
        self.tells((2, 2), over, (5, 5, 20), (10, 0))
        self.tells((1, 2), over, (5, 5, 6), (10, 0))
        # The first b is told though a span that ends later begins ahead of its a.
        self.tells((3, 4), over, (0, 0, 0, 6, 6, 0, 99), (11, 0))
        self.tells((0, 4), over, (2, 2, 2, 2, 3), (10, 0))

    def test_no_more_than_the_bucket_is_let_in(self):
        for depth in (1, 2, 998, 999):
            for gain in (0, 1, 98, 99):
                self.tells(None, over, (min(depth, 999),), (depth, gain))
                if depth < 999:
                    self.tells((0, 0), over, (depth + 1,), (depth, gain))
                load = (depth,) + (min(depth, gain),) * 20
                self.tells(None, over, load, (depth, gain))
                if depth > gain:
                    self.tells((0, 20), over, load[:-1] + (gain + 1,), (depth, gain))

    def test_of_none_and_of_noughts(self):
        for bucket in ((1, 0), (999, 99)):
            for load in ((), (0,), (0,) * 400):
                self.tells(None, over, load, bucket)
        self.tells((0, 0), over, (2,), (1, 99))
        self.tells((399, 399), over, (0,) * 399 + (2,), (1, 0))
        self.tells((0, 399), over, (1,) + (0,) * 398 + (1,), (1, 0))

    def test_like_all_spans_gone_through(self):
        chance = random.Random(241)
        for _ in range(400):
            load = some_load(chance, chance.choice((0, 1, 2, 5, 20, 40)))
            depth, gain = chance.choice((1, 5, 99, chance.randint(1, 999), 999)), chance.choice((0, 1, 5, 99))
            self.tells(model_over(load, depth, gain), over, load, (depth, gain))


class TestLeastDepth(Case):

    def test_ordinary_loads(self):
        self.tells((3, (0, 0)), least_depth, (3, 3, 3), 3)
        self.tells((4, (1, 1)), least_depth, (3, 4, 3), 3)
        self.tells((10, (0, 2)), least_depth, (3, 4, 3), 0)
        self.tells((5, (0, 1)), least_depth, (3, 4, 2), 2)

    def test_of_none_and_of_noughts(self):
        for gain in (0, 1, 99):
            for load in ((), (0,), (0,) * 400):
                self.tells((1, None), least_depth, load, gain)
            self.tells((1, (0, 0)), least_depth, (1,), gain)
            self.tells((1, (399, 399)), least_depth, (0,) * 399 + (1,), gain)

    def test_the_least_b_and_of_its_a_the_greatest(self):
        self.tells((9, (1, 1)), least_depth, (0, 9, 9), 9)
        self.tells((9, (1, 1)), least_depth, (0, 9, 0, 9), 9)
        self.tells((9, (2, 2)), least_depth, (3, 3, 9), 3)
        # From 0 on just so many come as well.
        self.tells((6, (2, 2)), least_depth, (3, 3, 6), 3)
        self.tells((6, (0, 1)), least_depth, (5, 4, 3), 3)
        self.tells((7, (0, 2)), least_depth, (5, 4, 4), 3)

    def test_however_great(self):
        self.tells((999 * 400, (0, 399)), least_depth, (999,) * 400, 0)
        self.tells((999 + 900 * 399, (0, 399)), least_depth, (999,) * 400, 99)

    def test_steady_by_the_gain(self):
        for gain in range(1, 100):
            self.tells((gain, (0, 0)), least_depth, (gain,) * 400, gain)

    def test_like_all_spans_gone_through(self):
        chance = random.Random(251)
        for _ in range(300):
            load = some_load(chance, chance.choice((0, 1, 2, 5, 20, 40)))
            gain = chance.choice((0, 1, 5, chance.randint(0, 99), 99))
            self.tells(model_least(load, gain), least_depth, load, gain)

    def test_loads_of_400_ticks_are_quick(self):
        chance = random.Random(257)
        for kind in range(6):
            load = some_load(chance, 400)
            for gain in (0, 7, 99):
                due = model_least(load, gain)
                self.tells(due, least_depth, load, gain)
                for depth in (min(due[0], 999), max(1, min(due[0], 999) - 1)):
                    self.tells(model_over(load, depth, gain), over, load, (depth, gain))

    def test_a_bucket_of_it_lets_in_and_one_of_less_does_not(self):
        chance = random.Random(263)
        met = 0
        while met < 60:
            load, gain = some_load(chance, chance.choice((1, 3, 20, 100))), chance.randint(0, 99)
            depth, span = least_depth(load, gain)
            if depth > 999:
                continue
            met += 1
            self.tells(None, over, load, (depth, gain))
            if depth > 1:
                self.tells(span, over, load, (depth - 1, gain))

    def test_put_together_parted_and_noughts_ahead_and_behind(self):
        chance = random.Random(269)
        for _ in range(60):
            one, other, gain = some_load(chance, 20), some_load(chance, 20), chance.randint(0, 30)
            depth, span = least_depth(one, gain)
            self.same(least_depth(one + (0,) * 9, gain), (depth, span))
            moved = None if span is None else (span[0] + 9, span[1] + 9)
            self.same(least_depth((0,) * 9 + one, gain), (depth, moved))
            both = least_depth(one + other, gain)[0]
            self.assertGreaterEqual(both, max(depth, least_depth(other, gain)[0]))
            self.assertLessEqual(both, depth + least_depth(other, gain)[0])
            added = tuple(min(999, come + more) for come, more in zip(one, other))
            self.assertLessEqual(least_depth(added, 2 * gain)[0], depth + least_depth(other, gain)[0])
            self.assertLessEqual(least_depth(one, gain + 1)[0], depth)


class TestLongest(Case):

    def test_alone(self):
        # Q is 8 + s: of a depth of 1 and no gain that is 9.
        self.tells((9, 0), longest, (PLAIN,), 0, 1, (1, 0))
        self.tells((0, 0), longest, (PLAIN,), 0, 10, (1, 0))
        self.tells((1, 0), longest, (PLAIN,), 0, 9, (1, 0))
        self.tells((9, 0), longest, (PLAIN,), 0, 1, (1, 1))
        self.tells(None, longest, (PLAIN,), 0, 1, (1, 2))
        self.tells((1007, 0), longest, (PLAIN,), 0, 1, (999, 0))

    def test_beside_another_one(self):
        # s is 10: 18 of its own, and 8 more than three turns of 9 of the other one.
        self.tells((53 // 5, 0), longest, (PLAIN, PLAIN), 0, 5, (10, 0))
        self.tells((53 // 5, 0), longest, (PLAIN, PLAIN), 1, 5, (10, 0))
        # At m of 0 Q is 183, of two turns; from m of 5 on there is a third one of 81: 269 // 10 - 5, 270 // 10 - 6.
        streams = (PLAIN, (9, NONE, 99))
        self.tells((21, 5), longest, streams, 0, 10, (5, 1))
        self.tells((18, 0), longest, streams, 0, 10, (5, 0))

    def test_not_where_more_comes_than_its_share(self):
        for weights in ((1,), (1, 1), (2, 3), (9, 1, 4)):
            streams = tuple((weight, NONE, 99) for weight in weights)
            for number, weight in enumerate(weights):
                for rate in (1, 7, 20, 99):
                    for gain in range(0, 100, 3):
                        told = self.ask(longest, streams, number, rate, (5, gain))
                        self.assertIs(told is None, gain * sum(weights) > rate * weight)

    def test_the_least_of_such_m(self):
        kinds = set()
        chance = random.Random(271)
        for _ in range(300):
            streams = some_streams(chance, chance.randint(1, 8))
            stream, rate = chance.randrange(len(streams)), chance.choice((1, 9, chance.randint(1, 99), 99))
            most = rate * streams[stream][0] // sum(each[0] for each in streams)
            bucket = (chance.choice((1, chance.randint(1, 999), 999)), chance.randint(0, min(99, most + 1)))
            due = model_longest(streams, stream, rate, *bucket)
            self.tells(due, longest, streams, stream, rate, bucket)
            kinds.add(due if due is None else due[1] > 0)
        self.assertEqual(kinds, {None, False, True})

    def test_rules_limits_and_other_streams_order_do_not_count(self):
        chance = random.Random(277)
        for _ in range(60):
            streams = some_streams(chance, chance.randint(2, 8))
            plain = tuple((weight, NONE, 99) for weight, _, _ in streams)
            told = longest(streams, 0, 50, (40, 2))
            self.same(longest(plain, 0, 50, (40, 2)), told)
            self.same(longest(plain[:1] + plain[:0:-1], 0, 50, (40, 2)), told)

    def test_a_let_in_stream_waits_no_longer_whatever_the_others_do(self):
        chance = random.Random(281)
        nearest = []
        for _ in range(150):
            streams = some_streams(chance, chance.randint(1, 6))
            number, rate = chance.randrange(len(streams)), chance.randint(1, 60)
            weight = streams[number][0]
            most = rate * weight // sum(each[0] for each in streams)
            depth, gain = chance.randint(1, 60), chance.randint(0, min(99, most))
            bound, _ = longest(streams, number, rate, (depth, gain))
            rule = ("late", min(99, bound + 1), 1) if bound < 99 else NONE
            streams = streams[:number] + ((weight, rule, 99),) + streams[number + 1:]
            standing = without(some_standing(chance, streams), number)
            line = Line(streams, rate=rate, standing=standing)
            run, load = let_in_run(chance, len(streams), number, depth, gain)
            self.assertIsNone(over(load, (depth, gain)))
            line.run(run)
            waited = max(waits(line.journal(), number), default=0)
            self.assertLessEqual(waited, bound)
            nearest.append(bound - waited)
            self.assertNotIn(number, [strike[2] for strike in strikes(streams, line.journal()) if rule != NONE])
        # Now and then it does wait just so long.
        self.assertEqual(min(nearest), 0)


def without(standing, number):
    """The standing with nothing in this lane."""
    budget, begun, ring, lanes = standing
    begun = begun and ring[0] != number
    ring = tuple(each for each in ring if each != number)
    kept = []
    for each, lane in enumerate(lanes):
        credit, pieces, memory = lane
        if each == number:
            credit, pieces = 0, ()
        kept.append((credit if begun and each == ring[0] else min(credit, 8), pieces, memory))
    return (budget if ring else 0, begun, ring, tuple(kept))


def let_in_run(chance, many, number, depth, gain):
    """A run in which a stream sends all that a bucket lets in, or nearly so, and the others whatever they like."""
    run, load, level = [], [], depth
    eager = chance.random() < 0.7
    for _ in range(100):
        comers, came = [], 0
        while level > 0 and len(comers) < 30 and (eager or chance.random() < 0.8):
            size = min(9, level) if eager else chance.randint(1, min(9, level))
            comers.append((number, size, chance.random() < 0.5))
            came += size
            level -= size
        for other in range(many):
            if other != number:
                comers.extend([(other, chance.choice((9, 9, 1, 5)), False)] * chance.choice((0, 1, 3, 5)))
        load.append(came)
        level = min(depth, level + gain)
        chance.shuffle(comers)
        run.append(tuple(comers[:64]))
    return tuple(run), tuple(load)


class TestRefusals(Case):

    def test_no_load_goes_first(self):
        bad = [[], [1], (1000,), (-1,), (True,), (1, None), (0,) * 401, (1, "1"), ((1,),), {}, "", (0, [1])]
        for load in bad + things() + list(spoilt((3, 4, 5))):
            if fits_load(load):
                continue
            for bucket in ((1, 0), None, (0, 0)):
                self.refuses(NoLoad, over, load, bucket)
            for gain in (0, 100, None):
                self.refuses(NoLoad, least_depth, load, gain)

    def test_bounds_of_loads(self):
        for come in (0, 1, 998, 999):
            for many in (1, 399, 400):
                self.ask(over, (come,) * many, (1, 0))
                self.ask(least_depth, (come,) * many, 0)
        for come in (-1, 1000, FORTY, -FORTY, True, False):
            for many in (0, 5, 399):
                for load in ((0,) * many + (come,), (come,) + (0,) * many):
                    self.refuses(NoLoad, over, load, (1, 0))
                    self.refuses(NoLoad, least_depth, load, 0)

    def test_no_bucket(self):
        bad = [(0, 0), (1000, 0), (1, -1), (1, 100), (True, 0), (1, False), [1, 0], (1,), (1, 0, 0), (), None, {1: 0}]
        for bucket in bad + things() + list(spoilt((5, 5))):
            if not fits_bucket(bucket):
                self.refuses(NoBucket, over, (1, 2), bucket)
                self.refuses(NoBucket, longest, (PLAIN,), 0, 9, bucket)
        for bucket in ((1, 0), (999, 99), (1, 99), (999, 0)):
            self.ask(over, (1, 2), bucket)

    def test_no_gain(self):
        for gain in things() + [-1, 100]:
            if not within(gain, 0, 99):
                self.refuses(NoNumber, least_depth, (1, 2), gain)
        for gain in (0, 99):
            self.ask(least_depth, (1, 2), gain)

    def test_of_longest_in_the_order_in_which_they_are_handed_in(self):
        for streams in things() + [(), (PLAIN,) * 9, [PLAIN], PLAIN] + list(spoilt_deep((PLAIN,))):
            if fit_streams(streams):
                continue
            for stream, rate, bucket in ((0, 9, (1, 0)), (9, 9, (1, 0)), (0, 0, (1, 0)), (0, 9, None), (None,) * 3):
                self.refuses(NoStreams, longest, streams, stream, rate, bucket)
        for stream in things() + [2, -1, 8]:
            if not within(stream, 0, 1):
                for rate, bucket in ((9, (1, 0)), (0, (1, 0)), (9, None), (None, None)):
                    self.refuses(NoNumber, longest, (PLAIN, PLAIN), stream, rate, bucket)
        for rate in things() + [0, 100]:
            if not within(rate, 1, 99):
                for bucket in ((1, 0), None, (1, 99)):
                    self.refuses(NoRate, longest, (PLAIN, PLAIN), 1, rate, bucket)


if __name__ == "__main__":
    unittest.main()
