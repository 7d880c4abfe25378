import unittest

import samples
from checks import FunctionTest
from flagplans.errors import InvalidPlan, Unsound
from flagplans.least import is_needed, least_plan, least_waits, same_runs
from flagplans.runs import count_runs

PLANS = samples.SOUND_PLANS + samples.BIG_SOUND_PLANS


class LeastWaitsTest(FunctionTest):
    def test_all_pairs(self):
        for plan in PLANS:
            expected = samples.least_waits(plan)
            self.assertTrue(samples.same_kind(self.call(least_waits, plan), expected))
            self.assertTrue(samples.same_kind(self.call(least_plan, plan), (plan[0], expected)))
            self.assertTrue(set(expected) <= set(plan[1]))

    def test_the_plan_with_the_least_waits_has_the_same_runs(self):
        for plan in PLANS:
            least = least_plan(plan)
            self.assertEqual(samples.before_pairs(least), samples.before_pairs(plan))
            self.assertEqual(samples.possible_moments(least), samples.possible_moments(plan))
            self.assertEqual(count_runs(least), count_runs(plan))
            self.assertEqual(least_plan(least), least)

    def test_waits_that_are_not_needed(self):
        pairs = tuple(((0, a), (1, b)) for a in range(4) for b in range(a, 6))
        self.assertEqual(least_waits(((6, 6), pairs)), tuple(((0, k), (1, k)) for k in range(4)))
        through = (((0, 0), (1, 0)), ((0, 0), (2, 0)), ((1, 0), (2, 0)))
        self.assertEqual(least_waits(((1, 1, 1), through)), (((0, 0), (1, 0)), ((1, 0), (2, 0))))

    def test_wrong_plans(self):
        for function in (least_waits, least_plan):
            self.check_invalid_plan(function)
            self.check_unsound(function)


class IsNeededTest(FunctionTest):
    def test_each_wait_by_the_number_of_runs(self):
        for plan in PLANS:
            runs = count_runs(plan)
            for wait in plan[1]:
                more = count_runs(samples.without(plan, wait)) > runs
                self.assertIs(self.call(is_needed, plan, wait), more)
                self.assertIs(wait in samples.least_waits(plan), more)

    def test_unknown_waits(self):
        self.check_unknown_waits(is_needed)

    def test_wrong_plans_first(self):
        self.check_invalid_plan(is_needed, ((0, 0), (1, 0)))
        self.check_unsound(is_needed, ((0, 0), (1, 0)))


class SameRunsTest(FunctionTest):
    def check(self, first, second):
        expected = first[0] == second[0] and samples.before_pairs(first) == samples.before_pairs(second)
        self.assertIs(self.call(same_runs, first, second), expected)
        self.assertIs(self.call(same_runs, second, first), expected)

    def test_plans_and_changed_plans(self):
        for plan in samples.SOUND_PLANS + [samples.PARALLEL, samples.FULL[0]]:
            self.check(plan, plan)
            self.check(plan, least_plan(plan))
            self.check(plan, (plan[0], ()))
            for wait in plan[1]:
                self.check(plan, samples.without(plan, wait))
            for pair in sorted(samples.before_pairs(plan))[:12]:
                if pair[0][0] != pair[1][0] and pair not in plan[1] and len(plan[1]) < 24:
                    self.check(plan, (plan[0], tuple(sorted(plan[1] + (pair,)))))

    def test_all_plans_with_small_sizes(self):
        plans = [plan for plan in samples.SOUND_PLANS if sum(plan[0]) <= 4]
        plans += [(plan[0], tuple(sorted((b, a) for a, b in plan[1]))) for plan in plans]
        plans = [plan for plan in plans if not samples.has_ring(plan)]
        for first in plans:
            for second in plans:
                self.check(first, second)

    def test_other_sizes(self):
        self.assertIs(same_runs(((0,), ()), ((0, 0), ())), False)
        self.assertIs(same_runs(((1, 2), ()), ((2, 1), ())), False)
        self.assertIs(same_runs(((2,), ()), ((3,), ())), False)

    def test_errors_in_their_order(self):
        right, ring = samples.PAIR, samples.SMALL_RING
        for value in samples.ODD_VALUES + samples.NO_PLANS:
            for other in (right, ring, value):
                self.check_raises(InvalidPlan, same_runs, value, other)
                self.check_raises(InvalidPlan, same_runs, other, value)
        for plan in samples.RING_PLANS:
            for other in (right, ring, plan):
                self.check_raises(Unsound, same_runs, plan, other)
                self.check_raises(Unsound, same_runs, other, plan)


if __name__ == "__main__":
    unittest.main()
