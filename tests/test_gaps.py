import random
import unittest

import endless_samples
import samples
from endless_checks import EndlessTest
from flagplans.errors import UnknownJob
from flagplans.gaps import are_heights, gap, gap_heights, gap_row, is_ahead
from flagplans.wrongs import InvalidTurn

HUGE = samples.HUGE
SOME_PLANS = endless_samples.SOUND_PLANS[:60]


def moved(heights, many):
    """The heights, all as much higher."""
    return tuple(tuple(height + many for height in row) for row in heights)


def with_height(heights, job, height):
    """The heights with another one for a job."""
    rows = [list(row) for row in heights]
    rows[job[0]][job[1]] = height
    return tuple(map(tuple, rows))


class GapTest(EndlessTest):
    def test_all_pairs_of_jobs(self):
        for plan in endless_samples.SOUND_PLANS:
            table = endless_samples.gap_table(plan)
            jobs = samples.all_jobs(plan[0])
            for first in jobs:
                for second in jobs:
                    self.assertTrue(samples.same_kind(gap(plan, first, second), table.get((first, second))))
                self.assertEqual(self.call(gap, plan, first, first), 0)
            self.call(gap, plan, jobs[0], jobs[-1])

    def test_the_greatest_gap(self):
        self.assertEqual(gap(endless_samples.FAR, (0, 1), (3, 2)), 13)
        self.assertIsNone(gap(endless_samples.FAR, (3, 2), (0, 1)))

    def test_the_nearest_of_several_waits(self):
        waits = tuple(((0, 0), (1, 0), distance) for distance in (1, 2, 3))
        self.assertEqual(gap(((1, 1), waits), (0, 0), (1, 0)), 1)
        self.assertIsNone(gap(((1, 1), waits), (1, 0), (0, 0)))

    def test_a_longer_row_with_a_lesser_distance(self):
        waits = (((0, 0), (1, 0), 3), ((0, 0), (2, 0), 1), ((2, 0), (1, 0), 1))
        plan = ((1, 1, 1), waits)
        self.assertEqual(gap(plan, (0, 0), (1, 0)), 2)
        self.assertEqual(gap_row(plan, (0, 0), (1, 0)), list(waits[1:]))
        self.assertEqual(gap(((3,), ()), (0, 2), (0, 1)), 1)

    def test_wrong_arguments(self):
        for function in (gap, gap_row, gap_heights):
            self.check_invalid_endless(function, (0, 0), (0, 0))
            self.check_stuck(function, (0, 0), (0, 0))
            self.check_unknown_jobs(function, SOME_PLANS[:8])

    def test_jobs_just_outside(self):
        for job in ((0, 2), (1, 1), (2, 0), (0, -1), (-1, 0)):
            for function in (gap, gap_row, gap_heights):
                caught = self.check_raises(UnknownJob, function, endless_samples.LINE, job, (5, 5))
                self.assertEqual(caught.job, job)
                caught = self.check_raises(UnknownJob, function, endless_samples.LINE, (1, 0), job)
                self.assertEqual(caught.job, job)


class GapRowTest(EndlessTest):
    def test_all_pairs_of_jobs(self):
        for plan in endless_samples.SOUND_PLANS:
            table = endless_samples.gap_table(plan)
            for first in samples.all_jobs(plan[0]):
                for second in samples.all_jobs(plan[0]):
                    row = gap_row(plan, first, second)
                    if (first, second) not in table:
                        self.assertIsNone(row)
                    else:
                        self.assertTrue(endless_samples.is_row(plan, row, first, second))
                        self.assertEqual(sum(distance for a, b, distance in row), table[first, second])
                self.assertEqual(self.call(gap_row, plan, first, first), [])
            self.call(gap_row, plan, (0, 0), samples.all_jobs(plan[0])[-1])


class GapHeightsTest(EndlessTest):
    def test_all_pairs_of_jobs(self):
        for plan in endless_samples.SOUND_PLANS:
            table = endless_samples.gap_table(plan)
            for first in samples.all_jobs(plan[0]):
                for second in samples.all_jobs(plan[0]):
                    heights = gap_heights(plan, first, second)
                    self.assertTrue(endless_samples.are_heights(plan, heights))
                    self.assertIs(are_heights(plan, heights), True)
                    difference = heights[second[0]][second[1]] - heights[first[0]][first[1]]
                    self.assertEqual(difference, table.get((first, second), 100))
            self.call(gap_heights, plan, first, second)

    def test_great_differences(self):
        heights = gap_heights(endless_samples.FAR, (3, 2), (0, 1))
        self.assertEqual(heights[0][1] - heights[3][2], 100)
        heights = gap_heights(endless_samples.FAR, (0, 1), (3, 2))
        self.assertEqual(heights[3][2] - heights[0][1], 13)


class AreHeightsTest(EndlessTest):
    def check(self, plan, value):
        self.assertIs(are_heights(plan, value), endless_samples.are_heights(plan, value), (plan, value))

    def test_heights_moved_as_a_whole_and_changed(self):
        rng = random.Random(1)
        for plan in endless_samples.SOUND_PLANS:
            jobs = samples.all_jobs(plan[0])
            heights = gap_heights(plan, rng.choice(jobs), rng.choice(jobs))
            for many in (0, -1, 7, -500, HUGE):
                self.assertIs(self.call(are_heights, plan, moved(heights, many)), True)
            for job in jobs:
                height = heights[job[0]][job[1]]
                for other in [height + more for more in range(-4, 5)] + [HUGE, -HUGE, True, None, "0", (0,)]:
                    self.check(plan, with_height(heights, job, other))
            equal = tuple((0,) * size for size in plan[0])
            self.assertIs(are_heights(plan, equal), True)

    def test_other_forms(self):
        for plan in SOME_PLANS:
            heights = gap_heights(plan, (0, 0), samples.all_jobs(plan[0])[-1])
            for value in samples.variants(heights) + [list(heights), tuple(map(list, heights)), heights + ((0,),)]:
                self.check(plan, value)
            self.assertIs(are_heights(plan, tuple((False,) * size for size in plan[0])), False)

    def test_each_link_limits_the_heights(self):
        for plan in SOME_PLANS:
            for first, second, distance in endless_samples.all_links(plan):
                if first != second:
                    heights = gap_heights(plan, first, second)
                    lower = heights[first[0]][first[1]]
                    self.assertIs(are_heights(plan, with_height(heights, second, lower + distance + 1)), False)

    def test_any_value(self):
        for plan in SOME_PLANS[::4]:
            for value in samples.ODD_VALUES + [(), plan, plan[0], plan[1], ((0,),), ((0,), (0,))]:
                self.assertIs(self.call(are_heights, plan, value), endless_samples.are_heights(plan, value))

    def test_wrong_plans(self):
        self.check_invalid_endless(are_heights, ((0,), (0,)))
        self.check_stuck(are_heights, ((0,), (0,)))


class IsAheadTest(EndlessTest):
    def test_against_the_turns_that_the_links_name(self):
        for plan in endless_samples.SMALL_SOUND_PLANS + [endless_samples.FAR]:
            jobs = samples.all_jobs(plan[0]) if plan != endless_samples.FAR else [(0, 1), (1, 0), (3, 2), (3, 3)]
            turns = [(job, number) for job in jobs for number in (0, 1, 2, 3, 5)]
            for other in turns:
                ahead = endless_samples.turns_ahead(plan, other)
                for turn in turns:
                    self.assertIs(is_ahead(plan, turn, other), turn in ahead, (plan, turn, other))

    def test_far_rounds(self):
        for plan in SOME_PLANS:
            table = endless_samples.gap_table(plan)
            for (first, second), least in table.items():
                if first != second:
                    for number in (0, 10 ** 6, HUGE):
                        for more in (0, 1, 400, HUGE):
                            self.assertIs(is_ahead(plan, (first, number), (second, number + least + more)), True)
                        if number + least > 0:
                            self.assertIs(is_ahead(plan, (first, number + 1), (second, number + least)), False)
            self.call(is_ahead, plan, (first, 3), (second, 4))

    def test_turns_of_one_job(self):
        for plan in SOME_PLANS:
            for job in samples.all_jobs(plan[0]):
                for number in (0, 1, 2, 9, HUGE):
                    self.assertIs(self.call(is_ahead, plan, (job, number), (job, number)), False)
                    self.assertIs(is_ahead(plan, (job, number), (job, number + 1)), True)
                    self.assertIs(is_ahead(plan, (job, number + 1), (job, number)), False)
                    self.assertIs(is_ahead(plan, (job, number), (job, number + HUGE)), True)

    def test_turns_of_one_queue(self):
        plan = ((3,), ())
        self.assertIs(is_ahead(plan, ((0, 0), 1), ((0, 2), 1)), True)
        self.assertIs(is_ahead(plan, ((0, 2), 1), ((0, 0), 1)), False)
        self.assertIs(is_ahead(plan, ((0, 2), 1), ((0, 0), 2)), True)

    def test_no_row(self):
        for number in (0, 5, HUGE):
            self.assertIs(is_ahead(endless_samples.APART, ((1, 0), 0), ((0, 0), number)), False)
            self.assertIs(is_ahead(endless_samples.APART, ((0, 0), 0), ((2, 0), number)), False)

    def test_values_that_are_no_turns(self):
        for plan in SOME_PLANS[:10]:
            jobs = samples.all_jobs(plan[0])
            right = (jobs[-1], 2)
            near = [
                (jobs[0], -1), (jobs[0], True), (jobs[0], None), (jobs[0], "0"), (jobs[0], -HUGE), [jobs[0], 0],
                (list(jobs[0]), 0), (jobs[0],), (jobs[0], 0, 0), jobs[0], ((0, plan[0][0]), 0), ((len(plan[0]), 0), 0),
                ((0, -1), 0), ((False, 0), 0), (0, jobs[0]), (jobs[0], (0,)), (right, 0)]
            for value in samples.ODD_VALUES + near + [(), plan, plan[1]]:
                self.check_raises(InvalidTurn, is_ahead, plan, value, right)
                self.check_raises(InvalidTurn, is_ahead, plan, right, value)
                self.check_raises(InvalidTurn, is_ahead, plan, value, value)

    def test_wrong_plans(self):
        self.check_invalid_endless(is_ahead, ((0, 0), 0), ((0, 0), 1))
        self.check_stuck(is_ahead, ((0, 0), 0), ((0, 0), 1))


if __name__ == "__main__":
    unittest.main()
