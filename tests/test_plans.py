import unittest

import samples
from checks import FunctionTest
from flagplans.errors import UnknownJob, UnknownWait
from flagplans.plans import check_job, check_wait, is_job, is_plan, jobs


def is_int(value):
    return type(value) is int


def is_plan_by_point_4(value):
    """The words of point 4, checked one after the other."""
    if type(value) is not tuple or len(value) != 2:
        return False
    sizes, waits = value
    if type(sizes) is not tuple or len(sizes) not in (1, 2, 3, 4):
        return False
    if not all(is_int(size) and size in range(7) for size in sizes):
        return False
    if type(waits) is not tuple or len(waits) > 24:
        return False
    right = [(a, b) for a in samples.all_jobs(sizes) for b in samples.all_jobs(sizes) if a[0] != b[0]]
    if not all(samples.is_one_of(wait, right) for wait in waits):
        return False
    return list(waits) == sorted(set(waits))


class IsPlanTest(FunctionTest):
    def check(self, value):
        self.assertIs(self.call(is_plan, value), is_plan_by_point_4(value), value)

    def test_plans(self):
        for plan in samples.PLANS + samples.BIG_SOUND_PLANS:
            self.assertIs(self.call(is_plan, plan), True, plan)

    def test_no_plans(self):
        for value in samples.NO_PLANS + samples.ODD_VALUES:
            self.assertIs(self.call(is_plan, value), False)

    def test_changed_plans(self):
        plans = [samples.PAIR, samples.CROSSED, samples.SMALL_RING, samples.LATE_RING, samples.EMPTY,
                 samples.MOMENTS_501, samples.SOUND_PLANS[7]]
        for plan in plans:
            for value in samples.variants(plan):
                self.check(value)

    def test_limits_of_sizes(self):
        for many in range(7):
            self.assertIs(is_plan(((1,) * many, ())), many in (1, 2, 3, 4))
            self.assertIs(is_plan(((many, many, 0, many), ())), True)
        for size in (7, 8, -1, -7, samples.HUGE):
            self.assertIs(is_plan(((size,), ())), False)
            self.assertIs(is_plan(((0, 6, size), ())), False)

    def test_limit_of_waits(self):
        pairs = [((0, a), (1, b)) for a in range(6) for b in range(6)]
        for many in range(len(pairs) + 1):
            self.assertIs(is_plan(((6, 6), tuple(pairs[:many]))), many <= 24)

    def test_jobs_of_waits(self):
        for first in range(-1, 8):
            for second in range(-1, 8):
                expected = 0 <= first < 6 and 0 <= second < 3
                self.assertIs(is_plan(((6, 3), (((0, first), (1, second)),))), expected)
                self.assertIs(is_plan(((3, 6), (((1, first), (0, second)),))), expected)


class JobsTest(FunctionTest):
    def test_each_job_in_order(self):
        for plan in samples.PLANS + samples.BIG_SOUND_PLANS:
            self.assertEqual(self.call(jobs, plan), samples.all_jobs(plan[0]))
        for size in range(7):
            expected = [(0, place) for place in range(size)] + [(2, place) for place in range(size)]
            self.assertEqual(self.call(jobs, ((size, 0, size), ())), expected)

    def test_values_that_are_no_plans(self):
        self.check_invalid_plan(jobs)


class IsJobTest(FunctionTest):
    def test_pairs_of_numbers(self):
        for plan in samples.PLANS:
            for queue in range(-1, 6):
                for place in range(-1, 8):
                    expected = (queue, place) in samples.all_jobs(plan[0])
                    self.assertIs(self.call(is_job, plan, (queue, place)), expected)

    def test_any_value(self):
        for plan in samples.PLANS:
            expected = samples.all_jobs(plan[0])
            for value in samples.ODD_VALUES + samples.variants((0, 0)) + samples.variants((1, 1)):
                self.assertIs(self.call(is_job, plan, value), samples.is_one_of(value, expected))

    def test_values_that_are_no_plans(self):
        self.check_invalid_plan(is_job, (0, 0))


class HelpersTest(FunctionTest):
    def test_known_jobs_and_waits(self):
        for plan in samples.PLANS:
            for job in samples.all_jobs(plan[0]):
                self.assertIsNone(check_job(plan, job))
            for wait in plan[1]:
                self.assertIsNone(check_wait(plan, wait))

    def test_unknown_jobs_and_waits(self):
        for plan in samples.PLANS:
            for value in samples.ODD_VALUES + samples.variants(((0, 0), (1, 0))) + samples.variants((0, 0)):
                if not samples.is_one_of(value, samples.all_jobs(plan[0])):
                    self.check_keeps(UnknownJob, "job", check_job, value, plan, value)
                if not samples.is_one_of(value, plan[1]):
                    self.check_keeps(UnknownWait, "wait", check_wait, value, plan, value)


if __name__ == "__main__":
    unittest.main()
