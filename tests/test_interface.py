"""The names of the interface, where they are defined, and the examples that the document gives."""

import doctest
import importlib
import inspect
import unittest
from pathlib import Path

HERE = Path(__file__).resolve().parent
EXAMPLES = [HERE / "examples.txt", HERE.parent / "README.md"]
FUNCTIONS = {
    "plans": {"is_plan": 1, "jobs": 1, "is_job": 2},
    "order": {"is_ring": 2, "shortest_ring": 1, "is_sound": 1, "is_before": 3},
    "runs": {
        "is_run": 2, "least_run": 1, "count_runs": 1, "is_moment": 2, "count_moments": 1, "moments": 1, "ready": 2},
    "least": {"least_waits": 1, "least_plan": 1, "is_needed": 2, "same_runs": 2},
    "opening": {"open_waits": 2, "most_open": 1, "busiest_moment": 1},
    "flagging": {"may_share": 3, "is_flags": 2, "clash": 2},
    "fewest": {"fewest_flags": 1, "assign_flags": 1},
}


class InterfaceTest(unittest.TestCase):
    def test_functions_are_defined_where_they_are_listed(self):
        for name, functions in FUNCTIONS.items():
            module = importlib.import_module("flagplans." + name)
            for function, many in functions.items():
                found = getattr(module, function)
                self.assertTrue(inspect.isfunction(found))
                self.assertEqual(found.__module__, module.__name__)
                self.assertEqual(len(inspect.signature(found).parameters), many, function)


def load_tests(loader, tests, pattern):
    tests.addTest(doctest.DocFileSuite(*map(str, EXAMPLES), module_relative=False))
    return tests


if __name__ == "__main__":
    unittest.main()
