import random
import unittest

import endless_samples
import samples
from endless_checks import EndlessTest
from flagplans.endless import is_circle, is_endless, links_of, zero_circle


class IsEndlessTest(EndlessTest):
    def check(self, value):
        self.assertIs(self.call(is_endless, value), endless_samples.is_endless(value))

    def test_endless_plans(self):
        for plan in endless_samples.PLANS:
            self.assertIs(self.call(is_endless, plan), True)

    def test_changed_plans(self):
        for plan in endless_samples.PLANS[:12] + endless_samples.STUCK_PLANS[:6]:
            for value in samples.variants(plan):
                self.assertIs(is_endless(value), endless_samples.is_endless(value), value)

    def test_all_sizes(self):
        for size in range(-1, 8):
            self.assertIs(is_endless(((size,), ())), 1 <= size <= 4)
            self.assertIs(is_endless(((2, size, 1), ())), 1 <= size <= 4)
            self.assertIs(is_endless(((1,) * size, ())), 1 <= size <= 4)

    def test_all_distances(self):
        for distance in range(-2, 7):
            plan = ((1, 2), (((0, 0), (1, 1), distance),))
            self.assertIs(is_endless(plan), 0 <= distance <= 3)

    def test_waits_between_the_same_jobs(self):
        waits = tuple(((0, 0), (1, 0), distance) for distance in range(4))
        self.assertIs(is_endless(((1, 1), waits)), True)
        self.assertIs(is_endless(((1, 1), waits[::-1])), False)
        self.assertIs(is_endless(((1, 1), waits[:1] + waits[:1])), False)

    def test_12_and_13_waits(self):
        pairs = [((0, k), (1, l), d) for k in range(4) for l in range(4) for d in range(4)]
        for seed in range(10):
            chosen = sorted(random.Random(seed).sample(pairs, 13))
            self.assertIs(is_endless(((4, 4), tuple(chosen[:12]))), True)
            self.assertIs(is_endless(((4, 4), tuple(chosen[1:]))), True)
            self.assertIs(is_endless(((4, 4), tuple(chosen))), False)

    def test_any_value(self):
        for value in samples.ODD_VALUES + endless_samples.NO_PLANS:
            self.assertIs(self.call(is_endless, value), False)
        for plan in samples.PLANS:
            self.check(plan)
        self.assertIs(is_endless(samples.PAIR), False)
        self.assertIs(is_endless(((6,), ())), False)


class LinksTest(EndlessTest):
    def test_queues_and_waits(self):
        for plan in endless_samples.PLANS:
            links = self.call(links_of, plan)
            self.assertTrue(samples.same_kind(links, sorted(endless_samples.all_links(plan))))
            self.assertEqual(len(set(links)), sum(plan[0]) + len(plan[1]))

    def test_queues_with_few_jobs(self):
        self.assertEqual(self.call(links_of, ((1,), ())), [((0, 0), (0, 0), 1)])
        self.assertEqual(self.call(links_of, ((2,), ())), [((0, 0), (0, 1), 0), ((0, 1), (0, 0), 1)])
        self.assertEqual(
            self.call(links_of, ((3,), ())), [((0, 0), (0, 1), 0), ((0, 1), (0, 2), 0), ((0, 2), (0, 0), 1)])

    def test_plans_that_are_stuck_have_links(self):
        self.assertEqual(len(self.call(links_of, endless_samples.TWO_JOBS_STUCK)), 4)

    def test_values_that_are_no_endless_plans(self):
        self.check_invalid_endless(links_of)


class IsCircleTest(EndlessTest):
    def check(self, plan, value):
        self.assertIs(is_circle(plan, value), endless_samples.is_circle(plan, value), (plan, value))

    def test_all_circles_of_small_plans(self):
        for plan in endless_samples.SMALL_PLANS:
            circles = endless_samples.circles_of(plan)[:200]
            for circle in circles:
                self.assertIs(is_circle(plan, circle), True)
                self.check(plan, circle[::-1])
                self.check(plan, circle + circle)
                self.check(plan, circle[1:] + circle[:1])
            for circle in circles[:2] + circles[-2:]:
                self.assertIs(self.call(is_circle, plan, circle), True)
                for value in samples.variants(circle) + [tuple(circle)]:
                    self.check(plan, value)

    def test_rows_that_are_no_circles(self):
        plan = ((2, 1), (((0, 0), (1, 0), 0), ((1, 0), (0, 0), 2), ((1, 0), (0, 1), 1)))
        there, back, late = plan[1]
        on, anew, alone = ((0, 0), (0, 1), 0), ((0, 1), (0, 0), 1), ((1, 0), (1, 0), 1)
        for circle in ([there, back], [back, there], [on, anew], [anew, on], [alone], [there, late, anew]):
            self.assertIs(is_circle(plan, circle), True)
        for row in (
                [], [there], [on], [there, back, there, back], [on, anew, there, back], [alone, alone],
                [there, alone, back], [back, there, alone], [there, late], [late, there], [there, back, on, anew],
                [there, ((1, 0), (0, 0), 1)], [there, ((1, 0), (0, 0), True)], [there, ((1, 0), (False, 0), 2)],
                [there, [(1, 0), (0, 0), 2]], (there, back), [there[:2], back], [((0, 0), (0, 0), 0)], [alone, on]):
            self.assertIs(is_circle(plan, row), False, row)

    def test_any_value(self):
        for plan in endless_samples.PLANS[::5]:
            for value in samples.ODD_VALUES + [(), plan, plan[1], list(plan[1]), list(plan), links_of(plan)]:
                self.assertIs(self.call(is_circle, plan, value), endless_samples.is_circle(plan, value))

    def test_values_that_are_no_endless_plans(self):
        self.check_invalid_endless(is_circle, [((0, 0), (0, 0), 1)])


class ZeroCircleTest(EndlessTest):
    def test_a_circle_exactly_if_there_is_one(self):
        more = endless_samples.random_plans(9, 150, 4, 12, (0, 1)) + endless_samples.random_plans(8, 150, 3, 5, (0,))
        for plan in endless_samples.PLANS + more:
            circle = self.call(zero_circle, plan)
            if endless_samples.has_zero_circle(plan):
                self.assertTrue(endless_samples.is_circle(plan, circle), (plan, circle))
                self.assertEqual([distance for first, second, distance in circle], [0] * len(circle))
                self.assertIs(is_circle(plan, circle), True)
            else:
                self.assertIsNone(circle)

    def test_against_all_circles_of_small_plans(self):
        for plan in endless_samples.SMALL_PLANS:
            circles = endless_samples.circles_of(plan)
            least = min(sum(distance for first, second, distance in circle) for circle in circles)
            self.assertIs(zero_circle(plan) is None, least > 0)

    def test_a_long_circle(self):
        waits = (((0, 3), (1, 0), 0), ((1, 3), (2, 0), 0), ((2, 3), (3, 0), 0), ((3, 3), (0, 0), 0))
        self.assertEqual(len(self.call(zero_circle, ((4, 4, 4, 4), waits))), 16)
        self.assertIsNone(zero_circle(((4, 4, 4, 4), waits[:3] + (((3, 3), (0, 0), 1),))))

    def test_values_that_are_no_endless_plans(self):
        self.check_invalid_endless(zero_circle)


if __name__ == "__main__":
    unittest.main()
