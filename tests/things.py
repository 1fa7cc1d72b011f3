"""What the tests share: things of all kinds, things spoilt part by part, and how a call is held to its word."""

import copy
import unittest

from waitmark import errors

FORTY = 10 ** 40 - 1

WHOLE = (0, 1, -1, 2, 3, 5, 7, 8, 9, 10, 64, 99, 100, 999, 1000, 1001, 9999, 10000, 10 ** 6, 10 ** 6 + 1, FORTY, -FORTY)


def deep(kind, depth):
    """A thing of so many tuples or lists within one another."""
    thing = kind()
    for _ in range(depth - 1):
        thing = kind([thing])
    return thing


def things():
    """Things of all kinds, made anew."""
    return list(WHOLE) + [
        True, False, None, "", "late", "share", "none", "0", "5", "9", "\u00e9" * 50,
        (), (()), ((),), ((), ()), (None,), (True,), (0,), (1, 2), (0, 1, True), ((0, 1, True),), (((0, 1, True),),),
        [], [[]], [()], ([],), (None, None, 0), [None, None, 0], (0, 0, 0, 0), [0, 0, 0, 0], (0, 0, 0), (0,) * 5,
        ("late",), ("late", 5), ("late", 5, 40), ["late", 5, 40], ("late", 5, 40, 1), ("late", True, 40),
        ("share",), ("share", 5, 4, 2, 1), ["share", 5, 4, 2, 1], ("share", 5, 4, 2), ("share", 5, 4, 2, 1, 0),
        ("none",), ["none"], ("none", 0), ("none", ()), (("none",),), ("None",), ("n", "o", "n", "e"),
        {}, {"late": 5}, {0: 1, 1: 2, 2: True}, {0: {}}, [{}], ({},), {"none": ()}, ({}, {}, {}), ([], [], []),
        ({"late": 1}, 5, 40), (["late"], 5, 40), (["share"], 5, 4, 2, 1), (("none",), ("none",)),
        (FORTY, FORTY, FORTY), (-FORTY, None, True), ("0", "1", "True"), "(0, 1, True)", (0, "1", True),
        deep(tuple, 8), deep(list, 8), (deep(tuple, 7), deep(list, 7), True), [deep(list, 7)] * 3, (None,) * 400,
    ]


def spoilt(thing):
    """The tuple with each part otherwise, a part more, a part less, and as what is no tuple."""
    for at, part in enumerate(thing):
        for other in (None, "", "x", (), [], {}, (part,), [part], str(part), -1, -FORTY, FORTY, 10 ** 6 + 1):
            if repr(other) != repr(part):
                yield thing[:at] + (other,) + thing[at + 1:]
        if not isinstance(part, bool):
            yield thing[:at] + (True,) + thing[at + 1:]
            yield thing[:at] + (False,) + thing[at + 1:]
        else:
            yield thing[:at] + (int(part),) + thing[at + 1:]
        yield thing[:at] + thing[at + 1:]
    for more in (None, 0, 1, True, thing):
        yield thing + (more,)
        yield (more,) + thing
    yield list(thing)
    yield dict(enumerate(thing))
    yield repr(thing)
    yield (thing,)


def is_whole(thing):
    return type(thing) is int


def within(thing, low, high):
    return type(thing) is int and low <= thing <= high


class Case(unittest.TestCase):
    """A test case that holds each call to what is promised of all calls."""

    def ask(self, function, *args, **named):
        """What the function tells; asked again it is the same, and what was handed in stays as it was."""
        before = repr((args, named))
        handed, by_name = copy.deepcopy(args), copy.deepcopy(named)
        told = function(*args, **named)
        self.assertEqual(repr((args, named)), before)
        self.assertEqual(repr(function(*args, **named)), repr(told))
        self.assertEqual(repr(function(*handed, **by_name)), repr(told))
        return told

    def same(self, told, due):
        """Equal, kinds and all: True is not 1, a list is no tuple."""
        self.assertEqual(repr(told), repr(due))

    def tells(self, due, function, *args, **named):
        self.same(self.ask(function, *args, **named), due)

    def refuses(self, kind, function, *args, **named):
        """Just this class of refusal, twice, and what was handed in stays as it was."""
        before = repr((args, named))
        for _ in range(2):
            with self.assertRaises(errors.LineError) as caught:
                function(*args, **named)
            self.assertIs(type(caught.exception), kind, (args, named))
        self.assertEqual(repr((args, named)), before)
        return caught.exception

    def refuses_run(self, function, *args, **named):
        refused = self.refuses(errors.NoRun, function, *args, **named)
        self.same(refused.number, 0)
