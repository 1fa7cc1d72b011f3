"""The interface: each name where it is listed, with its arguments as written."""

import importlib
import inspect
import unittest

CALLS = {
    "waitmark.base.comers": {
        "are_comers": "(many, thing)", "is_run": "(many, thing)", "units": "(comers, *, stream=None)",
    },
    "waitmark.base.roots": {"root": "(number)", "gap": "(span, count)"},
    "waitmark.base.plain": {
        "plain_waits": "(run, *, rate=9)", "plain_left": "(run, *, rate=9)",
        "plain_more": "(run, *, rate=9)", "plain_longest": "(run, *, rate=9)",
    },
    "waitmark.rules.late": {
        "is_late": "(thing)", "is_late_memory": "(rule, thing)", "late_first": "(rule)",
        "late_looked": "(rule, memory, wait, *, alone=False)", "late_passed": "(rule, memory)",
        "late_ticks": "(rule, many)",
    },
    "waitmark.rules.share": {
        "is_share": "(thing)", "is_share_memory": "(rule, thing)", "share_first": "(rule)",
        "share_renewed": "(rule, memory, wait)", "share_come": "(rule, memory)", "share_passed": "(rule, memory)",
        "share_struck": "(rule, memory, many)",
    },
    "waitmark.lanes.rules": {
        "is_rule": "(thing)", "is_memory": "(rule, thing)", "first_memory": "(rule)",
        "looked": "(rule, memory, wait, *, alone=False)", "come_in": "(rule, memory)",
        "renewed": "(rule, memory, wait)", "passed": "(rule, memory)",
    },
    "waitmark.lanes.lanes": {
        "is_stream": "(thing)", "is_lane": "(stream, thing)", "empty_lane": "(stream)",
        "put_in": "(stream, lane, size, *, can=True)", "head_out": "(stream, lane)",
        "lane_renewed": "(stream, lane)", "lane_passed": "(stream, lane)",
    },
    "waitmark.lanes.turns": {
        "is_standing": "(streams, thing)", "first_standing": "(streams)", "served": "(streams, rate, standing)",
    },
    "waitmark.line.steps": {"stepped": "(streams, rate, standing, comers)"},
    "waitmark.line.journals": {
        "journal_of": "(streams, rate, standing, run)", "shows_journal": "(streams, rate, standing, run, thing)",
        "accounts": "(streams, standing, journal)", "strikes": "(streams, journal)", "waits": "(journal, stream)",
    },
    "waitmark.line.reasons": {
        "reason_of": "(streams, rate, run, tick, place)", "shows_reason": "(streams, rate, run, tick, place, thing)",
    },
    "waitmark.line.spans": {
        "busy": "(streams, rate, standing, run)", "apart": "(streams, rate, standing, run, one, other, span)",
        "bound": "(streams, one, other)", "most_apart": "(streams, rate, standing, run)",
    },
    "waitmark.senders.senders": {
        "is_world": "(thing)", "is_state": "(world, thing)", "first_state": "(world)", "ticked": "(world, state)",
        "walked": "(world, many, *, state=None)",
    },
    "waitmark.senders.rings": {
        "ring_of": "(world)", "shows_ring": "(world, thing)", "falls": "(world, mark)",
        "shows_falls": "(world, mark, thing)", "ring_units": "(world)",
    },
    "waitmark.small.runs": {
        "small_done": "(rule, limit, lane, many)", "small_words": "(rule, limit, run)",
        "greatest_wait": "(rule, limit, *, most=2)", "shows_greatest": "(rule, limit, thing, *, most=2)",
    },
    "waitmark.small.pairs": {
        "alike": "(one, other, limit, *, most=2)", "longer": "(one, other, limit, over, *, most=2)",
        "shows_alike": "(one, other, limit, thing, *, most=2)",
        "shows_longer": "(one, other, limit, over, thing, *, most=2)",
    },
    "waitmark.small.letin": {
        "over": "(load, bucket)", "least_depth": "(load, gain)", "longest": "(streams, stream, rate, bucket)",
    },
    "waitmark.desk.texts": {
        "rule_text": "(rule)", "streams_text": "(streams)", "comers_text": "(comers)", "rows_text": "(rows)",
        "read_rule": "(text)", "read_streams": "(text)", "read_comers": "(text)",
    },
}

CLASSES = {
    "waitmark.line.line": {
        "Line": {
            "__init__": "(self, streams, *, rate=9, standing=None)", "step": "(self, comers=())", "run": "(self, run)",
            "standing": "(self)", "journal": "(self)", "waiting": "(self)", "back": "(self)", "diary": "(self)",
            "__eq__": "(self, other)", "__len__": "(self)", "__repr__": "(self)",
        },
    },
    "waitmark.desk.desk": {
        "Desk": {
            "__init__": "(self)", "say": "(self, row)", "many": "(self, rows)", "log": "(self)", "line": "(self)",
        },
    },
}

VALUES = {
    "waitmark.base.comers": {"MOST_SIZE": 9}, "waitmark.base.plain": {"RATE": 9},
    "waitmark.senders.rings": {"MOST_TICKS": 400}, "waitmark.small.runs": {"MOST": 2},
}


class TestInterface(unittest.TestCase):

    def test_each_function_is_defined_in_its_file(self):
        for place, calls in CALLS.items():
            module = importlib.import_module(place)
            for name, arguments in calls.items():
                function = getattr(module, name)
                self.assertTrue(inspect.isfunction(function), name)
                self.assertEqual((function.__module__, function.__name__), (place, name))
                self.assertEqual(str(inspect.signature(function)), arguments, name)

    def test_each_class_and_its_methods_are_defined_in_its_file(self):
        for place, classes in CLASSES.items():
            module = importlib.import_module(place)
            for name, methods in classes.items():
                kind = getattr(module, name)
                self.assertEqual((kind.__module__, kind.__name__), (place, name))
                for method, arguments in methods.items():
                    self.assertIn(method, vars(kind), name)
                    self.assertEqual(str(inspect.signature(vars(kind)[method])), arguments, method)

    def test_the_values(self):
        for place, values in VALUES.items():
            for name, value in values.items():
                self.assertEqual(repr(getattr(importlib.import_module(place), name)), repr(value))


if __name__ == "__main__":
    unittest.main()
