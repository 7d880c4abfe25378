import unittest

import samples
from flagplans import errors

WITH_MESSAGE = [
    "InvalidPlan", "Unsound", "InvalidMoment", "InvalidFlags", "InvalidChoices", "InvalidNumber", "SameQueue",
    "RingMade", "TooMany", "NothingFinished", "NotACertificate",
]
KEEPING = {
    "UnknownJob": "job", "UnknownWait": "wait", "WaitTaken": "wait", "InvalidQueue": "queue", "Ended": "queue",
    "Blocked": "queue", "FlagUp": "flag", "NotReady": "job", "Finished": "job", "Full": "limit",
    "InvalidMark": "number",
}


class ErrorsTest(unittest.TestCase):
    def test_the_base_class_is_a_value_error(self):
        self.assertEqual(errors.PlanError.__bases__, (ValueError,))
        self.assertEqual(errors.PlanError.__module__, "flagplans.errors")

    def test_each_class_is_a_direct_subclass(self):
        for name in WITH_MESSAGE + list(KEEPING):
            made = getattr(errors, name)
            self.assertEqual(made.__bases__, (errors.PlanError,), name)
            self.assertEqual((made.__name__, made.__module__), (name, "flagplans.errors"))

    def test_classes_with_a_message(self):
        for name in WITH_MESSAGE:
            error = getattr(errors, name)("some words")
            self.assertEqual(str(error), "some words")
            self.assertRaises(errors.PlanError, self.throw, error)

    def test_classes_that_keep_their_argument(self):
        for name, attribute in KEEPING.items():
            for value in samples.ODD_VALUES + samples.NO_PLANS + [6]:
                error = getattr(errors, name)(value)
                self.assertIs(getattr(error, attribute), value)
                self.assertIsInstance(str(error), str)
                self.assertRaises(errors.PlanError, self.throw, error)

    def throw(self, error):
        raise error


if __name__ == "__main__":
    unittest.main()
