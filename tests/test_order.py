import unittest

import samples
from checks import FunctionTest
from flagplans.errors import UnknownJob
from flagplans.order import is_before, is_ring, is_sound, shortest_ring


def rings_of(plan):
    """All rings of a plan, each from each of its jobs on, by going on from every row of different jobs."""
    pairs = samples.direct_pairs(plan)
    found = []
    rows = [[job] for job in samples.all_jobs(plan[0])]
    while rows:
        row = rows.pop()
        for first, second in pairs:
            if first == row[-1] and second == row[0] and len(row) > 1:
                found.append(row)
            if first == row[-1] and second not in row:
                rows.append(row + [second])
    return found


def least_ring_length(plan):
    """The least number of jobs of a ring, by the lengths of rows from each job to each job."""
    pairs = samples.direct_pairs(plan)
    reached = {(job, job) for job in samples.all_jobs(plan[0])}
    for length in range(1, len(samples.all_jobs(plan[0])) + 1):
        reached = {(start, second) for start, middle in reached for first, second in pairs if first == middle}
        if any(start == end for start, end in reached):
            return length
    return None


SMALL_PLANS = [plan for plan in samples.PLANS if sum(plan[0]) <= 8 and len(plan[1]) <= 6]


class IsRingTest(FunctionTest):
    def test_all_rings_and_changed_ones(self):
        for plan in SMALL_PLANS:
            rings = rings_of(plan)
            for ring in rings:
                self.assertIs(self.call(is_ring, plan, ring), True)
            for ring in rings[:3]:
                for value in samples.variants(ring) + [ring + ring]:
                    self.assertIs(self.call(is_ring, plan, value), samples.is_one_of(value, rings), (plan, value))

    def test_rings_turned(self):
        for ring in rings_of(samples.LATE_RING):
            for k in range(len(ring)):
                self.assertIs(is_ring(samples.LATE_RING, ring[k:] + ring[:k]), True)

    def test_walks_that_are_no_rings(self):
        for plan in SMALL_PLANS:
            rings = rings_of(plan)
            for first, second in samples.direct_pairs(plan):
                for third, fourth in samples.direct_pairs(plan):
                    for value in ([first, second], [first, second, third, fourth], [first, second, fourth]):
                        self.assertIs(is_ring(plan, value), value in rings)
            for value in ([], *[[job] for job in samples.all_jobs(plan[0])]):
                self.assertIs(is_ring(plan, value), False)

    def test_any_value(self):
        for plan in samples.PLANS:
            for value in samples.ODD_VALUES + [plan, list(plan[1]), plan[1]]:
                self.assertIs(self.call(is_ring, plan, value), False)

    def test_bools_are_no_numbers(self):
        self.assertIs(is_ring(samples.SMALL_RING, [(0, 0), (1, 0)]), True)
        self.assertIs(is_ring(samples.SMALL_RING, [(False, 0), (1, 0)]), False)
        self.assertIs(is_ring(samples.SMALL_RING, [(0, 0), (True, 0)]), False)
        self.assertIs(is_ring(samples.SMALL_RING, ((0, 0), (1, 0))), False)

    def test_values_that_are_no_plans(self):
        self.check_invalid_plan(is_ring, [(1, 0), (0, 0)])


class ShortestRingTest(FunctionTest):
    def test_least_length(self):
        plans = samples.PLANS + samples.BIG_SOUND_PLANS + [samples.MANY_MOMENTS_WITH_RING]
        for plan in plans + samples.random_plans(11, 60, 1, 5, 9, sound=False):
            ring = self.call(shortest_ring, plan)
            length = least_ring_length(plan)
            if length is None:
                self.assertIsNone(ring)
            else:
                self.assertEqual(len(ring), length)
                self.assertIs(is_ring(plan, ring), True)
                self.assertEqual(len(set(ring)), length)
                self.assertTrue(set(zip(ring, ring[1:] + ring[:1])) <= samples.direct_pairs(plan))

    def test_a_long_ring(self):
        waits = (((0, 5), (1, 0)), ((1, 5), (2, 0)), ((2, 5), (3, 0)), ((3, 5), (0, 0)))
        ring = self.call(shortest_ring, ((6, 6, 6, 6), waits))
        self.assertEqual(sorted(ring), samples.all_jobs((6, 6, 6, 6)))

    def test_values_that_are_no_plans(self):
        self.check_invalid_plan(shortest_ring)


class IsSoundTest(FunctionTest):
    def test_exactly_the_plans_without_a_ring(self):
        for plan in samples.PLANS + samples.BIG_SOUND_PLANS + samples.random_plans(12, 60, 1, 5, 9, sound=False):
            self.assertIs(self.call(is_sound, plan), not samples.has_ring(plan))

    def test_values_that_are_no_plans(self):
        self.check_invalid_plan(is_sound)


class IsBeforeTest(FunctionTest):
    def test_all_pairs(self):
        for plan in samples.SOUND_PLANS + [samples.PARALLEL] + samples.FULL[:2]:
            before = samples.before_pairs(plan)
            for first in samples.all_jobs(plan[0]):
                self.assertIs(self.call(is_before, plan, first, first), False)
                for second in samples.all_jobs(plan[0]):
                    self.assertIs(is_before(plan, first, second), (first, second) in before)

    def test_unknown_jobs(self):
        for plan in (samples.PAIR, samples.FULL[0], samples.EMPTY, ((0, 2), ())):
            right = samples.all_jobs(plan[0])
            for value in samples.ODD_VALUES + samples.variants((0, 0)) + [(0, plan[0][0]), (len(plan[0]), 0)]:
                if samples.is_one_of(value, right):
                    continue
                self.check_keeps(UnknownJob, "job", is_before, value, plan, value, value)
                self.check_keeps(UnknownJob, "job", is_before, value, plan, value, (9, 9))
                for job in right[:1]:
                    self.check_keeps(UnknownJob, "job", is_before, value, plan, value, job)
                    self.check_keeps(UnknownJob, "job", is_before, value, plan, job, value)

    def test_wrong_plans_first(self):
        self.check_invalid_plan(is_before, (0, 0), (1, 0))
        self.check_unsound(is_before, (0, 0), (1, 0))


if __name__ == "__main__":
    unittest.main()
