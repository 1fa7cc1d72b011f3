"""The refusals: each class by its name, right under LineError."""

import unittest

from waitmark import errors
from tests.things import Case

OF_A_TEXT = (
    "NoStreams", "NoComers", "NoRate", "NoNumber", "NoRule", "NoMemory", "NoStream", "NoLane", "NoStanding",
    "NoDeed", "NoWorld", "NoState", "TooLong", "TooWide", "NoLoad", "NoBucket", "NoText", "NoLine",
)


class TestErrors(Case):

    def test_the_base_is_a_value_error(self):
        self.assertEqual(errors.LineError.__bases__, (ValueError,))
        self.assertEqual(errors.LineError.__name__, "LineError")
        self.assertEqual(str(errors.LineError("why")), "why")

    def test_each_class_stands_right_under_the_base(self):
        for name in OF_A_TEXT + ("NoRun",):
            kind = getattr(errors, name)
            self.assertEqual(kind.__name__, name)
            self.assertEqual(kind.__bases__, (errors.LineError,), name)

    def test_none_stands_under_another_one(self):
        kinds = [getattr(errors, name) for name in OF_A_TEXT + ("NoRun",)]
        for one in kinds:
            for other in kinds:
                self.assertEqual(issubclass(one, other), one is other)

    def test_there_are_just_these(self):
        found = {name for name in vars(errors) if isinstance(getattr(errors, name), type)}
        self.assertEqual(found, set(OF_A_TEXT) | {"NoRun", "LineError"})

    def test_each_is_made_of_a_text(self):
        for name in OF_A_TEXT:
            kind = getattr(errors, name)
            for text in ("", "why not", "0"):
                self.assertEqual(str(kind(text)), text)

    def test_no_run_keeps_its_number(self):
        for number in (0, 1, 7, 399, 400, 10 ** 40):
            self.same(errors.NoRun(number).number, number)
        one, other = errors.NoRun(3), errors.NoRun(4)
        self.same((one.number, other.number), (3, 4))
        self.assertIsInstance(str(one), str)

    def test_each_is_caught_by_its_name_and_by_the_base(self):
        for name in OF_A_TEXT:
            kind = getattr(errors, name)
            for caught in (kind, errors.LineError, ValueError):
                with self.assertRaises(caught):
                    raise kind("why")
        with self.assertRaises(errors.LineError):
            raise errors.NoRun(5)


if __name__ == "__main__":
    unittest.main()
