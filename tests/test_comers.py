"""Comers, runs and units."""

import unittest

from waitmark.base import comers as module
from waitmark.base.comers import are_comers, is_run, units
from waitmark.errors import NoComers, NoNumber, NoStreams
from tests.things import FORTY, Case, spoilt, things, within

MANIES = range(1, 9)
NUMBERS = (-FORTY, -1, 0, 1, 2, 3, 4, 5, 6, 7, 8, 9, 10, 11, 63, 64, 65, 400, FORTY)


def fits_comer(many, thing):
    """What a comer is, put down once more for the tests."""
    return (type(thing) is tuple and len(thing) == 3 and within(thing[0], 0, many - 1)
            and within(thing[1], 1, 9) and thing[2] in (True, False) and type(thing[2]) is bool)


def fit_comers(many, thing):
    return type(thing) is tuple and len(thing) <= 64 and all(fits_comer(many, part) for part in thing)


def fits_run(many, thing):
    return type(thing) is tuple and len(thing) <= 400 and all(fit_comers(many, part) for part in thing)


class TestComers(Case):

    def test_the_greatest_size(self):
        self.same(module.MOST_SIZE, 9)

    def test_ordinary_ones(self):
        self.tells(True, are_comers, 2, ((0, 3, False), (1, 9, True)))
        self.tells(True, are_comers, 8, ((7, 1, True), (0, 9, False), (7, 1, True)))
        self.tells(False, are_comers, 2, ((0, 3, False), (2, 9, True)))
        self.tells(False, are_comers, 2, (0, 3, False))

    def test_the_stream_is_below_the_number_of_streams(self):
        for many in MANIES:
            for stream in NUMBERS:
                self.tells(0 <= stream < many, are_comers, many, ((stream, 1, True),))

    def test_the_size_is_from_1_to_9(self):
        for many in MANIES:
            for size in NUMBERS:
                self.tells(1 <= size <= 9, are_comers, many, ((0, size, False),))

    def test_whether_it_may_be_marked_is_a_truth(self):
        for many in MANIES:
            for can in things():
                self.tells(can is True or can is False, are_comers, many, ((0, 1, can),))

    def test_a_truth_is_no_number(self):
        for many in MANIES:
            for truth in (True, False):
                self.tells(False, are_comers, many, ((truth, 1, True),))
                self.tells(False, are_comers, many, ((0, truth, True),))

    def test_none_to_sixty_four(self):
        for many in MANIES:
            one = ((many - 1, 9, True),)
            for count in (0, 1, 2, 63, 64):
                self.tells(True, are_comers, many, one * count)
            for count in (65, 66, 400):
                self.tells(False, are_comers, many, one * count)

    def test_one_otherwise_wherever_it_stands(self):
        for many in MANIES:
            good = ((0, 1, True),)
            for bad in ((many, 1, True), (0, 10, True), (0, 1, 1), [0, 1, True], (), None):
                for ahead, behind in ((0, 1), (1, 0), (5, 5), (63, 0), (0, 63), (31, 32)):
                    self.tells(False, are_comers, many, good * ahead + (bad,) + good * behind)

    def test_a_comer_spoilt_in_each_part(self):
        for many in MANIES:
            for comer in ((0, 1, True), (many - 1, 9, False)):
                for bad in spoilt(comer):
                    self.tells(fits_comer(many, bad), are_comers, many, (bad,))
                    self.tells(fits_comer(many, bad), are_comers, many, (comer, bad, comer))

    def test_lists_are_no_tuples(self):
        for many in MANIES:
            self.tells(False, are_comers, many, [(0, 1, True)])
            self.tells(False, are_comers, many, ([0, 1, True],))
            self.tells(False, are_comers, many, [])
            self.tells(False, are_comers, many, {})

    def test_things_of_all_kinds(self):
        for many in MANIES:
            for thing in things():
                self.tells(fit_comers(many, thing), are_comers, many, thing)
                self.tells(fits_comer(many, thing), are_comers, many, (thing,))

    def test_what_is_no_number_of_streams(self):
        for many in things():
            for thing in (((0, 1, True),), (), None, [], ((9, 9, 9),), 0, {}, many):
                if not within(many, 1, 8):
                    self.refuses(NoStreams, are_comers, many, thing)
                    self.refuses(NoStreams, is_run, many, thing)
        for many in (0, 9, True, False, 1 - 10 ** 39):
            for thing in things():
                self.refuses(NoStreams, are_comers, many, thing)
                self.refuses(NoStreams, is_run, many, thing)


class TestRun(Case):

    def test_ordinary_ones(self):
        self.tells(True, is_run, 1, ())
        self.tells(True, is_run, 1, ((),))
        self.tells(True, is_run, 2, (((0, 3, False), (1, 9, True)), (), ((1, 1, False),)))
        self.tells(False, is_run, 1, (((0, 3, False), (1, 9, True)),))
        self.tells(False, is_run, 1, ((0, 3, False),))
        self.tells(False, is_run, 1, (0, 3, False))

    def test_none_to_four_hundred_ticks(self):
        for many in MANIES:
            for comers in ((), ((many - 1, 9, True),)):
                for count in (0, 1, 65, 399, 400):
                    self.tells(True, is_run, many, (comers,) * count)
                for count in (401, 402, 1000):
                    self.tells(False, is_run, many, (comers,) * count)

    def test_none_to_sixty_four_comers_in_each(self):
        for many in MANIES:
            one = ((0, 1, False),)
            self.tells(True, is_run, many, ((), one * 64, one * 64, ()))
            self.tells(False, is_run, many, ((), one * 64, one * 65, ()))

    def test_the_greatest_run(self):
        full = ((0, 9, True),) * 64
        self.tells(True, is_run, 1, (full,) * 400)
        self.tells(False, is_run, 1, (full,) * 399 + (full + full[:1],))
        self.tells(False, is_run, 1, (full,) * 399 + (full[:63] + ((1, 9, True),),))

    def test_a_tick_otherwise_wherever_it_stands(self):
        for many in MANIES:
            good = (((0, 1, True),),)
            for bad in (((many, 1, True),), ((0, 0, True),), ((0, 1, 0),), [], None, 0, (0, 1, True)):
                for ahead, behind in ((0, 0), (0, 1), (1, 0), (3, 3), (399, 0), (0, 399)):
                    self.tells(False, is_run, many, good * ahead + (bad,) + good * behind)

    def test_a_comer_spoilt_in_each_part(self):
        for many in MANIES:
            comer = (many - 1, 9, True)
            for bad in spoilt(comer):
                self.tells(fits_comer(many, bad), is_run, many, ((), (comer, bad), ()))

    def test_the_streams_are_below_their_number(self):
        for many in MANIES:
            for stream in NUMBERS:
                self.tells(0 <= stream < many, is_run, many, ((), ((0, 1, True), (stream, 1, True))))

    def test_things_of_all_kinds(self):
        for many in MANIES:
            for thing in things():
                self.tells(fits_run(many, thing), is_run, many, thing)
                self.tells(fit_comers(many, thing), is_run, many, (thing,))

    def test_lists_are_no_tuples(self):
        for many in MANIES:
            self.tells(False, is_run, many, [])
            self.tells(False, is_run, many, [((0, 1, True),)])
            self.tells(False, is_run, many, ([(0, 1, True)],))
            self.tells(False, is_run, many, (([0, 1, True],),))


class TestUnits(Case):

    COMERS = tuple((stream, size, size % 2 == 0) for stream in range(8) for size in range(1, stream + 2))

    def test_of_none(self):
        self.tells(0, units, ())
        self.tells(0, units, (), stream=None)
        for stream in range(8):
            self.tells(0, units, (), stream=stream)

    def test_of_all(self):
        self.tells(12, units, ((0, 3, False), (1, 9, True)))
        self.tells(12, units, ((0, 3, False), (1, 9, True)), stream=None)
        self.tells(576, units, ((7, 9, True),) * 64)
        self.tells(sum((k + 1) * (k + 2) // 2 for k in range(8)), units, self.COMERS)

    def test_of_each_stream_by_name(self):
        for stream in range(8):
            self.tells((stream + 1) * (stream + 2) // 2, units, self.COMERS, stream=stream)
        self.tells(3, units, ((0, 3, False), (1, 9, True)), stream=0)
        self.tells(9, units, ((0, 3, False), (1, 9, True)), stream=1)
        self.tells(0, units, ((0, 3, False), (1, 9, True)), stream=2)

    def test_the_stream_comes_by_name_alone(self):
        with self.assertRaises(TypeError):
            units((), 0)

    def test_what_are_no_comers(self):
        for thing in things():
            if not fit_comers(8, thing):
                self.refuses(NoComers, units, thing)
                for stream in (0, 7, 8, -1, None, True, "0"):
                    self.refuses(NoComers, units, thing, stream=stream)
        for bad in (((8, 1, True),), ((0, 10, True),), ((0, 0, True),), ((0, 1, True),) * 65, [(0, 1, True)]):
            self.refuses(NoComers, units, bad)
            self.refuses(NoComers, units, bad, stream=8)

    def test_what_is_no_streams_number(self):
        for stream in things():
            if stream is not None and not within(stream, 0, 7):
                self.refuses(NoNumber, units, (), stream=stream)
                self.refuses(NoNumber, units, ((0, 1, True),), stream=stream)


if __name__ == "__main__":
    unittest.main()
