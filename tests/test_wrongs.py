import copy
import unittest

import endless_samples
import samples
from flagplans import wrongs
from flagplans.errors import PlanError

WITH_MESSAGE = [
    "InvalidEndless", "InvalidStanding", "InvalidTurn", "InvalidTour", "InvalidTurning", "InvalidDurations",
    "InvalidFraction", "NotARecord",
]
KEEPING = {"Stuck": "circle", "NotHeld": "wait"}


class WrongsTest(unittest.TestCase):
    def test_each_class_is_a_direct_subclass(self):
        for name in WITH_MESSAGE + list(KEEPING):
            made = getattr(wrongs, name)
            self.assertEqual(made.__bases__, (PlanError,), name)
            self.assertEqual((made.__name__, made.__module__), (name, "flagplans.wrongs"))

    def test_no_class_is_another_one(self):
        made = [getattr(wrongs, name) for name in WITH_MESSAGE + list(KEEPING)]
        for first in made:
            self.assertEqual([second for second in made if issubclass(first, second)], [first])

    def test_classes_with_a_message(self):
        for name in WITH_MESSAGE:
            error = getattr(wrongs, name)("some words")
            self.assertEqual(str(error), "some words")
            self.assertRaises(PlanError, self.throw, error)
            self.assertRaises(ValueError, self.throw, error)

    def test_classes_that_keep_their_argument(self):
        for name, attribute in KEEPING.items():
            for value in samples.ODD_VALUES + endless_samples.NO_PLANS + [[((0, 0), (0, 0), 1)]]:
                before = copy.deepcopy(value)
                error = getattr(wrongs, name)(value)
                self.assertIs(getattr(error, attribute), value)
                self.assertIsInstance(str(error), str)
                self.assertRaises(PlanError, self.throw, error)
                self.assertTrue(samples.same_kind(value, before))

    def throw(self, error):
        raise error


if __name__ == "__main__":
    unittest.main()
