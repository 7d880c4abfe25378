import random
import unittest

import samples
from checks import FunctionTest
from flagplans.changes import add_wait, drop_wait, mirrored, side_by_side
from flagplans.errors import InvalidPlan, RingMade, SameQueue, TooMany, WaitTaken
from flagplans.plans import is_plan
from flagplans.runs import count_runs

WITH_JOBS = [plan for plan in samples.PLANS if sum(plan[0])]


def without_last(plan):
    return plan[0], plan[1][:-1]


class AddWaitTest(FunctionTest):
    def check_pair(self, plan, first, second):
        """A pair of jobs of the plan gives the plan with this wait, or the first error that there is."""
        longer = (plan[0], tuple(sorted(plan[1] + ((first, second),))))
        if first[0] == second[0]:
            self.check_raises(SameQueue, add_wait, plan, first, second)
        elif (first, second) in plan[1]:
            caught = self.check_raises(WaitTaken, add_wait, plan, first, second)
            self.assertTrue(samples.same_kind(caught.wait, (first, second)))
        elif len(plan[1]) == 24:
            self.check_raises(TooMany, add_wait, plan, first, second)
        elif samples.has_ring(longer):
            self.check_raises(RingMade, add_wait, plan, first, second)
        else:
            self.assertTrue(samples.same_kind(self.call(add_wait, plan, first, second), longer))
            self.assertIs(is_plan(longer), True)

    def test_all_pairs_of_jobs(self):
        for plan in [plan for plan in samples.PLANS if sum(plan[0]) <= 8] + [samples.MOMENTS_501]:
            for first in samples.all_jobs(plan[0]):
                for second in samples.all_jobs(plan[0]):
                    self.check_pair(plan, first, second)

    def test_some_pairs_of_great_plans(self):
        rng = random.Random(1)
        for plan in samples.PLANS + samples.BIG_SOUND_PLANS + [without_last(plan) for plan in samples.FULL]:
            jobs = samples.all_jobs(plan[0])
            for _ in range(20 if jobs else 0):
                self.check_pair(plan, rng.choice(jobs), rng.choice(jobs))
            for wait in plan[1]:
                self.check_pair(plan, *wait)
                self.check_pair(samples.without(plan, wait), *wait)

    def test_the_wait_stands_in_its_place(self):
        plan = ((3, 3), (((0, 0), (1, 0)), ((0, 2), (1, 2))))
        self.assertEqual(self.call(add_wait, plan, (0, 1), (1, 1))[1][1], ((0, 1), (1, 1)))
        self.assertEqual(add_wait(plan, (0, 0), (1, 1))[1][1], ((0, 0), (1, 1)))
        self.assertEqual(add_wait(plan, (1, 0), (0, 2))[1][2], ((1, 0), (0, 2)))

    def test_24_waits(self):
        for plan in samples.FULL:
            shorter = without_last(plan)
            self.assertEqual(self.call(add_wait, shorter, *plan[1][-1]), plan)
            job = (3, 5)
            self.check_raises(SameQueue, add_wait, plan, job, job)
            self.check_raises(WaitTaken, add_wait, plan, *plan[1][0])
            self.check_raises(RingMade, add_wait, shorter, *shorter[1][0][::-1])
            self.check_raises(TooMany, add_wait, plan, *plan[1][0][::-1])

    def test_plans_that_have_rings_already(self):
        self.check_raises(RingMade, add_wait, samples.LATE_RING, (0, 0), (1, 0))
        self.check_raises(WaitTaken, add_wait, samples.SMALL_RING, (0, 0), (1, 0))
        self.check_raises(SameQueue, add_wait, samples.SMALL_RING, (0, 0), (0, 0))

    def test_unknown_jobs(self):
        self.check_unknown_jobs(add_wait, [samples.PAIR, samples.SMALL_RING, samples.FULL[0], ((0, 2), ())])

    def test_values_that_are_no_plans(self):
        self.check_invalid_plan(add_wait, (0, 0), (1, 0))


class DropWaitTest(FunctionTest):
    def test_each_wait(self):
        for plan in samples.PLANS + samples.BIG_SOUND_PLANS:
            for wait in plan[1]:
                self.assertTrue(samples.same_kind(self.call(drop_wait, plan, wait), samples.without(plan, wait)))

    def test_a_wait_less_and_more(self):
        for plan in samples.SOUND_PLANS:
            for wait in plan[1]:
                self.assertEqual(add_wait(drop_wait(plan, wait), *wait), plan)

    def test_unknown_waits(self):
        self.check_unknown_waits(drop_wait)

    def test_plans_with_rings(self):
        self.assertEqual(drop_wait(samples.SMALL_RING, ((0, 0), (1, 0))), ((1, 1), (((1, 0), (0, 0)),)))
        self.assertEqual(len(drop_wait(samples.FULL_RINGS, samples.FULL_RINGS[1][7])[1]), 23)

    def test_values_that_are_no_plans(self):
        self.check_invalid_plan(drop_wait, ((0, 0), (1, 0)))


class MirroredTest(FunctionTest):
    def test_each_wait_turned(self):
        for plan in samples.PLANS + samples.BIG_SOUND_PLANS:
            sizes, waits = plan
            expected = sorted(
                ((d, sizes[d] - 1 - l), (c, sizes[c] - 1 - k)) for (c, k), (d, l) in waits)
            self.assertTrue(samples.same_kind(self.call(mirrored, plan), (sizes, tuple(expected))))

    def test_twice_is_the_plan(self):
        for plan in samples.PLANS + samples.BIG_SOUND_PLANS:
            self.assertIs(is_plan(mirrored(plan)), True)
            self.assertEqual(mirrored(mirrored(plan)), plan)

    def test_as_many_runs(self):
        for plan in samples.PLANS:
            self.assertEqual(count_runs(mirrored(plan)), count_runs(plan))

    def test_jobs_from_the_other_end(self):
        self.assertEqual(mirrored(((6, 2), (((0, 0), (1, 1)),))), ((6, 2), (((1, 0), (0, 5)),)))

    def test_values_that_are_no_plans(self):
        self.check_invalid_plan(mirrored)


class SideBySideTest(FunctionTest):
    def check_both(self, first, second):
        if len(first[0]) + len(second[0]) > 4 or len(first[1]) + len(second[1]) > 24:
            self.check_raises(TooMany, side_by_side, first, second)
            return
        many = len(first[0])
        moved = [((c + many, k), (d + many, l)) for (c, k), (d, l) in second[1]]
        expected = (first[0] + second[0], tuple(sorted(list(first[1]) + moved)))
        self.assertTrue(samples.same_kind(self.call(side_by_side, first, second), expected))
        self.assertIs(is_plan(expected), True)

    def test_all_pairs_of_plans(self):
        for first in samples.PLANS:
            for second in samples.PLANS:
                self.check_both(first, second)

    def test_just_four_queues(self):
        for first, second in (((3, 3), (1, 0)), ((0,), (6, 6, 6)), ((1, 2, 3), (4,))):
            self.assertEqual(side_by_side((first, ()), (second, ())), (first + second, ()))
            self.check_raises(TooMany, side_by_side, (first, ()), (second + (0,), ()))
            self.check_raises(TooMany, side_by_side, (first + (0,), ()), (second, ()))

    def test_just_24_waits(self):
        pairs = tuple(((0, k), (1, l)) for k in range(6) for l in range(6))
        for many in (0, 1, 12, 23, 24):
            both = side_by_side(((6, 6), pairs[:many]), ((6, 6), pairs[:24 - many]))
            self.assertEqual(len(both[1]), 24)
            self.assertIs(is_plan(both), True)
            if many:
                self.check_raises(TooMany, side_by_side, ((6, 6), pairs[:many]), ((6, 6), pairs[:25 - many]))
        self.check_both(((6, 6), pairs[:20]), ((6, 6), pairs[:5]))

    def test_plans_with_rings(self):
        ring = samples.SMALL_RING
        self.assertEqual(
            side_by_side(ring, ring), ((1, 1, 1, 1), ring[1] + (((2, 0), (3, 0)), ((3, 0), (2, 0)))))

    def test_values_that_are_no_plans(self):
        for value in samples.ODD_VALUES + samples.NO_PLANS:
            for other in (samples.PAIR, samples.WIDE, samples.SMALL_RING, value):
                self.check_raises(InvalidPlan, side_by_side, value, other)
                self.check_raises(InvalidPlan, side_by_side, other, value)


if __name__ == "__main__":
    unittest.main()
