"""The names of the interface, where they are defined, and the examples that the document gives."""

import doctest
import importlib
import inspect
import unittest
from pathlib import Path

HERE = Path(__file__).resolve().parent
EXAMPLES = [HERE / "examples.txt", HERE.parent / "README.md"]
FUNCTIONS = {
    "plans": {"is_plan": 1, "jobs": 1, "is_job": 2},
    "order": {"is_ring": 2, "shortest_ring": 1, "is_sound": 1, "is_before": 3},
    "runs": {
        "is_run": 2, "least_run": 1, "count_runs": 1, "is_moment": 2, "count_moments": 1, "moments": 1, "ready": 2},
    "least": {"least_waits": 1, "least_plan": 1, "is_needed": 2, "same_runs": 2},
    "opening": {"open_waits": 2, "most_open": 1, "busiest_moment": 1},
    "flagging": {"may_share": 3, "is_flags": 2, "clash": 2},
    "fewest": {"fewest_flags": 1, "assign_flags": 1},
    "counters": {"counters": 1},
    "steps": {"steps": 2, "walk": 3},
    "changes": {"add_wait": 3, "drop_wait": 2, "mirrored": 1, "side_by_side": 2},
    "checker": {"check": 1},
    "endless": {"is_endless": 1, "links_of": 1, "is_circle": 2, "zero_circle": 1},
    "gaps": {"gap": 3, "gap_row": 3, "gap_heights": 3, "are_heights": 2, "is_ahead": 3},
    "standings": {"is_standing": 2, "finished_rounds": 3, "ready_queues": 2, "is_walk": 2, "walk_to": 2},
    "opened": {"open_rounds": 3, "load": 2, "bound_of": 2, "full_standing": 2},
    "thin": {"is_needed_wait": 2, "least_endless": 1, "parting_standing": 2},
    "tours": {"is_tour": 2, "tour_length": 2, "shortest_tour": 1, "greatest_load": 1, "fullest_standing": 1},
    "turning": {"is_turning": 2, "turning_clash": 2, "fewest_turning": 1, "turning_flags": 1},
    "pace": {"pace": 2, "critical_circle": 2, "timetable": 2, "is_timetable": 4},
    "rounds": {"first_rounds": 2},
    "runner": {"clashing_choices": 2},
    "records": {"judge": 1},
}
# The methods of each class, with the number of their arguments beside the object itself.
CLASSES = {
    "workspace": {"Workspace": {
        "__init__": 1, "add_job": 1, "add_wait": 2, "finish": 1, "take_back": 0, "mark": 0, "back": 1, "plan": 0,
        "finished": 0, "marks": 0, "ready": 0, "open_waits": 0, "flags_needed": 0}},
    "mill": {"Mill": {
        "__init__": 1, "add_wait": 3, "drop_wait": 1, "do": 1, "take_back": 0, "mark": 0, "back": 1, "plan": 0,
        "turns": 0, "standing": 0, "marks": 0, "ready": 0, "opened": 0, "needed_flags": 0}},
    "runner": {"Runner": {
        "__init__": 2, "step": 1, "next_step": 1, "blocked": 0, "clashing": 0, "up": 0, "turns": 0, "standing": 0}},
}


class InterfaceTest(unittest.TestCase):
    def test_functions_are_defined_where_they_are_listed(self):
        for name, functions in FUNCTIONS.items():
            module = importlib.import_module("flagplans." + name)
            for function, many in functions.items():
                found = getattr(module, function)
                self.assertTrue(inspect.isfunction(found))
                self.assertEqual(found.__module__, module.__name__)
                self.assertEqual(len(inspect.signature(found).parameters), many, function)

    def test_methods_are_defined_in_the_class_itself(self):
        for name, classes in CLASSES.items():
            module = importlib.import_module("flagplans." + name)
            for made, methods in classes.items():
                found = getattr(module, made)
                self.assertEqual(found.__module__, module.__name__)
                for method, many in methods.items():
                    self.assertTrue(inspect.isfunction(vars(found)[method]), method)
                    self.assertEqual(len(inspect.signature(vars(found)[method]).parameters), many + 1, method)


def load_tests(loader, tests, pattern):
    tests.addTest(doctest.DocFileSuite(*map(str, EXAMPLES), module_relative=False))
    return tests


if __name__ == "__main__":
    unittest.main()
