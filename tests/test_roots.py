"""Roots and gaps."""

import random
import unittest

from waitmark.base.roots import gap, root
from waitmark.errors import NoNumber
from tests.things import FORTY, Case, things, within


def slow_root(number):
    """The greatest whose square is no more, one by one."""
    found = 0
    while (found + 1) * (found + 1) <= number:
        found += 1
    return found


class TestRoot(Case):

    def test_small_ones_one_by_one(self):
        for number in range(3000):
            self.tells(slow_root(number), root, number)

    def test_squares_and_what_stands_beside_them(self):
        for side in list(range(1, 200)) + [10 ** 15 + 3, 2 ** 53, 2 ** 53 + 1, FORTY, 10 ** 75, 10 ** 76 + 7]:
            self.tells(side, root, side * side)
            self.tells(side - 1, root, side * side - 1)
            self.tells(side, root, side * side + 1)
            self.tells(side, root, side * side + 2 * side)
            self.tells(side + 1, root, side * side + 2 * side + 1)

    def test_numbers_of_hundreds_of_figures(self):
        self.tells(10 ** 75, root, 10 ** 150)
        self.tells(10 ** 76 - 1, root, 10 ** 152 - 1)
        self.tells(10 ** 250, root, 10 ** 500 + 1)
        chance = random.Random(5)
        for _ in range(300):
            number = chance.randrange(10 ** chance.randrange(150, 900))
            found = self.ask(root, number)
            self.assertTrue(found * found <= number < (found + 1) * (found + 1))
            self.tells(found, root, found * found)
            self.tells(found, root, (found + 1) * (found + 1) - 1)

    def test_what_is_no_such_number(self):
        for thing in things():
            if not (type(thing) is int and thing >= 0):
                self.refuses(NoNumber, root, thing)
        for number in (-1, -4, -FORTY, -10 ** 300, True, False, None, "4", (4,), [4]):
            self.refuses(NoNumber, root, number)


class TestGap(Case):

    def test_ordinary_ones(self):
        self.tells(40, gap, 40, 1)
        self.tells(28, gap, 40, 2)
        self.tells(23, gap, 40, 3)
        self.tells(20, gap, 40, 4)

    def test_all_of_small_spans(self):
        for span in range(1, 13):
            for count in range(1, span * span + 1):
                self.tells(slow_root(span * span // count), gap, span, count)

    def test_at_the_bounds_of_span_and_count(self):
        for span in range(1, 100):
            square = span * span
            self.tells(span, gap, span, 1)
            self.tells(1, gap, span, square)
            for count in (2, 3, 5, square // 2, square // 4, square // 4 + 1, square - 1):
                if 1 <= count <= square:
                    self.tells(slow_root(square // count), gap, span, count)
            for count in (0, -1, square + 1, square + 2, FORTY):
                self.refuses(NoNumber, gap, span, count)
        for span in (0, -1, -99, 100, 101, FORTY, -FORTY):
            for count in (1, 2, 0):
                self.refuses(NoNumber, gap, span, count)

    def test_what_is_no_such_number(self):
        for thing in things():
            if not within(thing, 1, 99):
                self.refuses(NoNumber, gap, thing, 1)
                self.refuses(NoNumber, gap, thing, thing)
            if not within(thing, 1, 99 * 99):
                self.refuses(NoNumber, gap, 99, thing)
            if not within(thing, 1, 4):
                self.refuses(NoNumber, gap, 2, thing)


if __name__ == "__main__":
    unittest.main()
