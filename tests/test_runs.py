import unittest
from itertools import permutations, product
from math import factorial

import samples
from checks import FunctionTest
from flagplans.errors import TooMany
from flagplans.runs import count_moments, count_runs, is_moment, is_run, least_run, moments, ready

SMALL_PLANS = [plan for plan in samples.PLANS if sum(plan[0]) <= 6]
MIDDLE_PLANS = [plan for plan in samples.PLANS if 6 < sum(plan[0]) <= 16]


def is_run_by_point_6(plan, row):
    """Whether a row of all jobs is a run: each job behind all that are directly before it."""
    return all(row.index(first) < row.index(second) for first, second in samples.direct_pairs(plan))


def runs_of(plan):
    """The ascending list of all runs of a small plan."""
    return [row for row in permutations(samples.all_jobs(plan[0])) if is_run_by_point_6(plan, row)]


def count_by_rows(plan):
    """The number of runs, by the last job of each set of finished jobs."""
    pairs = samples.direct_pairs(plan)
    counts = {(): 1}
    for moment in sorted(product(*[range(size + 1) for size in plan[0]]), key=sum):
        finished = frozenset(samples.all_jobs(moment))
        many = 0 if finished else 1
        for job in finished:
            if not any(first == job and second in finished for first, second in pairs):
                if all(first in finished for first, second in pairs if second == job):
                    many += counts.get(tuple(sorted(finished - {job})), 0)
        counts[tuple(sorted(finished))] = many
    return counts[tuple(samples.all_jobs(plan[0]))]


def without_waits(sizes):
    """The number of runs of a plan without waits."""
    many = factorial(sum(sizes))
    for size in sizes:
        many //= factorial(size)
    return many


class IsRunTest(FunctionTest):
    def test_all_rows_of_jobs(self):
        for plan in SMALL_PLANS[:60]:
            for row in permutations(samples.all_jobs(plan[0])):
                self.assertIs(is_run(plan, row), is_run_by_point_6(plan, row))

    def test_changed_runs(self):
        for plan in SMALL_PLANS:
            runs = runs_of(plan)
            for run in runs[:1] + runs[-1:]:
                self.assertIs(self.call(is_run, plan, run), True)
                for value in samples.variants(run) + [list(run), run + run]:
                    self.assertIs(self.call(is_run, plan, value), samples.is_one_of(value, runs), (plan, value))

    def test_any_value(self):
        for plan in samples.PLANS:
            for value in samples.ODD_VALUES + [plan, plan[0], plan[1], ()]:
                self.assertIs(self.call(is_run, plan, value), value == () and sum(plan[0]) == 0)

    def test_large_runs_with_two_jobs_exchanged(self):
        for plan in samples.BIG_SOUND_PLANS:
            run = least_run(plan)
            self.assertIs(is_run(plan, run), True)
            for k in range(len(run) - 1):
                row = run[:k] + (run[k + 1], run[k]) + run[k + 2:]
                self.assertIs(is_run(plan, row), (run[k], run[k + 1]) not in samples.direct_pairs(plan))

    def test_values_that_are_no_plans(self):
        self.check_invalid_plan(is_run, ((0, 0), (1, 0)))


class LeastRunTest(FunctionTest):
    def test_the_least_of_all_runs(self):
        for plan in SMALL_PLANS:
            runs = runs_of(plan)
            self.assertEqual(self.call(least_run, plan), min(runs) if runs else None)

    def test_no_lesser_job_can_come_at_any_place(self):
        for plan in samples.SOUND_PLANS + samples.BIG_SOUND_PLANS:
            run = self.call(least_run, plan)
            self.assertEqual(sorted(run), samples.all_jobs(plan[0]))
            self.assertTrue(is_run_by_point_6(plan, run))
            pairs = samples.direct_pairs(plan)
            for k, job in enumerate(run):
                free = [b for b in run[k:] if not any(second == b and first in run[k:] for first, second in pairs)]
                self.assertEqual(min(free), job)

    def test_none_exactly_for_plans_with_rings(self):
        for plan in samples.PLANS + [samples.MANY_MOMENTS_WITH_RING]:
            self.assertIs(self.call(least_run, plan) is None, samples.has_ring(plan))

    def test_values_that_are_no_plans(self):
        self.check_invalid_plan(least_run)


class CountRunsTest(FunctionTest):
    def test_against_all_runs(self):
        for plan in SMALL_PLANS:
            self.assertEqual(self.call(count_runs, plan), len(runs_of(plan)))

    def test_against_a_count_by_last_jobs(self):
        for plan in MIDDLE_PLANS:
            self.assertEqual(self.call(count_runs, plan), count_by_rows(plan))
        for plan in samples.FULL[2:]:
            self.assertEqual(self.call(count_runs, plan), count_by_rows(plan))

    def test_plans_without_waits(self):
        for sizes in product((0, 1, 3, 6), repeat=3):
            self.assertEqual(count_runs((sizes, ())), without_waits(sizes))
        self.assertEqual(self.call(count_runs, samples.WIDE), 2308743493056)
        self.assertEqual(self.call(count_runs, samples.EMPTY), 1)

    def test_plans_with_rings(self):
        for plan in samples.RING_PLANS + [samples.MANY_MOMENTS_WITH_RING]:
            self.assertEqual(self.call(count_runs, plan), 0)

    def test_values_that_are_no_plans(self):
        self.check_invalid_plan(count_runs)


class MomentsTest(FunctionTest):
    def test_all_tuples_of_numbers(self):
        for plan in SMALL_PLANS + MIDDLE_PLANS[:20] + [samples.LATE_RING]:
            right = samples.possible_moments(plan)
            for value in product(*[range(-1, size + 2) for size in plan[0]]):
                self.assertIs(is_moment(plan, value), value in right)

    def test_is_moment_of_any_value(self):
        for plan in samples.PLANS:
            right = samples.possible_moments(plan)
            for value in samples.ODD_VALUES + samples.variants(right[0]) + samples.variants(right[-1]) + [()]:
                self.assertIs(self.call(is_moment, plan, value), samples.is_one_of(value, right))

    def test_lists_and_counts(self):
        for plan in samples.PLANS:
            right = samples.possible_moments(plan)
            self.assertEqual(self.call(moments, plan), right)
            self.assertEqual(self.call(count_moments, plan), len(right))

    def test_counts_of_great_plans(self):
        for plan in samples.BIG_SOUND_PLANS + [samples.FULL_RINGS, samples.MANY_MOMENTS_WITH_RING]:
            self.assertEqual(self.call(count_moments, plan), len(samples.possible_moments(plan)))
        self.assertEqual(count_moments(samples.WIDE), 7 ** 4)

    def test_more_than_500(self):
        self.assertEqual(len(self.call(moments, samples.MOMENTS_500)), 500)
        self.assertEqual(count_moments(samples.MOMENTS_501), 501)
        for plan in samples.BIG_SOUND_PLANS + [samples.MOMENTS_501, samples.MANY_MOMENTS_WITH_RING]:
            right = samples.possible_moments(plan)
            if len(right) > 500:
                self.check_raises(TooMany, moments, plan)
            else:
                self.assertEqual(self.call(moments, plan), right)

    def test_values_that_are_no_plans(self):
        self.check_invalid_plan(is_moment, (0, 0))
        self.check_invalid_plan(count_moments)
        self.check_invalid_plan(moments)


class ReadyTest(FunctionTest):
    def test_at_all_moments(self):
        for plan in samples.PLANS + samples.FULL[:1]:
            pairs = samples.direct_pairs(plan)
            for moment in samples.possible_moments(plan):
                finished = samples.all_jobs(moment)
                expected = [
                    job for job in samples.all_jobs(plan[0])
                    if job not in finished and all(first in finished for first, second in pairs if second == job)]
                self.assertEqual(ready(plan, moment), expected)
            self.call(ready, plan, moment)

    def test_wrong_moments_and_plans(self):
        self.check_invalid_moment(ready)
        self.check_invalid_plan(ready, (0, 0))


if __name__ == "__main__":
    unittest.main()
