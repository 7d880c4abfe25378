"""Checks that the tests of several functions share."""

import copy
import unittest

import samples
from flagplans.errors import InvalidMoment, InvalidPlan, Unsound


class FunctionTest(unittest.TestCase):
    """Tests of functions that take a plan."""

    def call(self, function, *arguments):
        """Call a function: it modifies no argument, and answers the same again, by a new list if by a list."""
        before = copy.deepcopy(arguments)
        result = function(*arguments)
        again = function(*arguments)
        self.assertTrue(samples.same_kind(arguments, before), function)
        self.assertTrue(samples.same_kind(result, again), function)
        if isinstance(result, list):
            self.assertIsNot(result, again)
            kept = copy.deepcopy(result)
            again.append("more")
            self.assertTrue(samples.same_kind(result, kept))
            self.assertTrue(samples.same_kind(function(*arguments), kept))
        return result

    def check_raises(self, error, function, *arguments):
        """The call raises just this class of errors, and modifies nothing. Returns the error."""
        before = copy.deepcopy(arguments)
        with self.assertRaises(error) as caught:
            function(*arguments)
        self.assertIs(caught.exception.__class__, error)
        self.assertTrue(samples.same_kind(arguments, before), function)
        return caught.exception

    def check_keeps(self, error, name, function, value, *arguments):
        """The call raises this class of errors with the very value in the attribute of this name."""
        self.assertIs(getattr(self.check_raises(error, function, *arguments), name), value)

    def check_invalid_plan(self, function, *others):
        """Nothing else than a plan is taken, whatever the other arguments are."""
        for value in samples.ODD_VALUES + samples.NO_PLANS:
            self.check_raises(InvalidPlan, function, value, *others)
            self.check_raises(InvalidPlan, function, value, *[None for _ in others])

    def check_unsound(self, function, *others):
        """No plan with a ring is taken, whatever the other arguments are."""
        for plan in samples.RING_PLANS:
            self.check_raises(Unsound, function, plan, *others)
            self.check_raises(Unsound, function, plan, *[None for _ in others])

    def check_invalid_moment(self, function):
        """No value is taken for a moment that is not a possible one."""
        for plan in samples.PLANS:
            right = samples.possible_moments(plan)
            odd = samples.ODD_VALUES + samples.variants(right[0]) + samples.variants(right[-1]) + [plan, plan[0]]
            for value in odd:
                if not samples.is_one_of(value, right):
                    self.check_raises(InvalidMoment, function, plan, value)
