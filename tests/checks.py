"""Checks that the tests of several functions share."""

import copy
import unittest

import samples
from flagplans.errors import InvalidFlags, InvalidMoment, InvalidPlan, UnknownJob, UnknownWait, Unsound


RIGHT = ("right",)


def wrong(number):
    return ("wrong", number)


def first_fault(*conditions):
    """What the checker or the judge has to return, from functions that tell in their order whether conditions hold."""
    for number, holds in enumerate(conditions):
        if not holds():
            return wrong(number)
    return RIGHT


def lists_in(value):
    """All lists in a value, itself included."""
    found = [value] if isinstance(value, list) else []
    if isinstance(value, (list, tuple)):
        for entry in value:
            found.extend(lists_in(entry))
    return found


class FunctionTest(unittest.TestCase):
    """Tests of functions that take a plan."""

    def call(self, function, *arguments):
        """Call a function: it modifies no argument, and answers the same again, by new lists wherever by lists."""
        before = copy.deepcopy(arguments)
        result = function(*arguments)
        again = function(*arguments)
        self.assertTrue(samples.same_kind(arguments, before), function)
        self.assertTrue(samples.same_kind(result, again), function)
        found = lists_in(again)
        self.assertEqual(len({id(entry) for entry in found}), len(found), function)
        if found:
            kept = copy.deepcopy(result)
            for entry in found:
                entry.append("more")
            self.assertTrue(samples.same_kind(result, kept), function)
            self.assertTrue(samples.same_kind(function(*arguments), kept), function)
            self.assertTrue(samples.same_kind(arguments, before), function)
        return result

    def check_raises(self, error, function, *arguments):
        """The call raises just this class of errors, and modifies nothing. Returns the error."""
        before = copy.deepcopy(arguments)
        with self.assertRaises(error) as caught:
            function(*arguments)
        self.assertIs(caught.exception.__class__, error)
        self.assertTrue(samples.same_kind(arguments, before), function)
        return caught.exception

    def check_keeps(self, error, name, function, value, *arguments):
        """The call raises this class of errors with the very value in the attribute of this name."""
        self.assertIs(getattr(self.check_raises(error, function, *arguments), name), value)

    def check_invalid_plan(self, function, *others):
        """Nothing else than a plan is taken, whatever the other arguments are."""
        for value in samples.ODD_VALUES + samples.NO_PLANS:
            self.check_raises(InvalidPlan, function, value, *others)
            self.check_raises(InvalidPlan, function, value, *[None for _ in others])

    def check_unsound(self, function, *others):
        """No plan with a ring is taken, whatever the other arguments are."""
        for plan in samples.RING_PLANS:
            self.check_raises(Unsound, function, plan, *others)
            self.check_raises(Unsound, function, plan, *[None for _ in others])

    def check_invalid_moment(self, function):
        """No value is taken for a moment that is not a possible one."""
        for plan in samples.PLANS:
            right = samples.possible_moments(plan)
            odd = samples.ODD_VALUES + samples.variants(right[0]) + samples.variants(right[-1]) + [plan, plan[0]]
            for value in odd:
                if not samples.is_one_of(value, right):
                    self.check_raises(InvalidMoment, function, plan, value)

    def check_unknown_waits(self, function, *others):
        """No value is taken for a wait that is not one of the plan."""
        for plan in (samples.PAIR, samples.DOUBLE, samples.EMPTY, samples.FULL[0]):
            odd = samples.ODD_VALUES + [(), plan, plan[1], ((0, 1), (1, 0), 0), ((1, 0), (0, 0))]
            for value in odd + samples.variants(((0, 0), (1, 0))):
                if not samples.is_one_of(value, plan[1]):
                    self.check_keeps(UnknownWait, "wait", function, value, plan, value, *others)

    def check_invalid_flags(self, function, plans, *others):
        """No value is taken for flags that is not flags for the plan."""
        for plan in plans:
            flags = tuple(range(len(plan[1])))
            for value in samples.ODD_VALUES + samples.variants(flags) + [list(flags), flags + (0,), plan, plan[1]]:
                if not samples.are_flags(plan, value):
                    self.check_raises(InvalidFlags, function, plan, value, *others)

    def check_unknown_jobs(self, function, plans, *others):
        """No value is taken for a job that is not one of the plan: neither for the first, nor for the second one."""
        for plan in plans:
            right = samples.all_jobs(plan[0])
            for value in samples.ODD_VALUES + samples.variants(right[-1]) + [(), plan, right]:
                if not samples.is_one_of(value, right):
                    self.check_keeps(UnknownJob, "job", function, value, plan, value, right[0], *others)
                    self.check_keeps(UnknownJob, "job", function, value, plan, value, None, *others)
                    self.check_keeps(UnknownJob, "job", function, value, plan, value, value, *others)
                    self.check_keeps(UnknownJob, "job", function, value, plan, right[0], value, *others)
                    self.check_keeps(UnknownJob, "job", function, value, plan, right[-1], value, *others)
