import random
import unittest
from itertools import product

import endless_samples
import samples
from endless_checks import EndlessTest
from flagplans.thin import is_needed_wait, least_endless, parting_standing
from flagplans.wrongs import InvalidEndless, Stuck

PLANS = endless_samples.HELD_PLANS + endless_samples.NOT_HELD_PLANS + endless_samples.SOUND_PLANS[:40]
PAIR = endless_samples.PAIR
LEAST = [endless_samples.least_plan(plan) for plan in PLANS]


def needless_waits(plan):
    """All waits that the plan has not and that rows of it make needless."""
    jobs = samples.all_jobs(plan[0])
    waits = [(a, b, d) for a in jobs for b in jobs if a[0] != b[0] for d in range(4)]
    return [wait for wait in waits if wait not in plan[1] and endless_samples.is_needless(plan, wait)]


def with_waits(plan, waits):
    return plan[0], tuple(sorted(set(plan[1]) | set(waits)))


def with_needless_waits(rng, plan):
    """The plan with some more waits, as many as it can have at the most, that are needless."""
    found = needless_waits(plan)
    many = min(len(found), 12 - len(plan[1]))
    return with_waits(plan, rng.sample(found, rng.randint(min(many, 1), many)))


class LeastEndlessTest(EndlessTest):
    def test_all_waits(self):
        for plan, least in zip(PLANS, LEAST):
            for wait in plan[1]:
                self.assertIs(self.call(is_needed_wait, plan, wait), wait in least[1], (plan, wait))
            self.assertTrue(samples.same_kind(self.call(least_endless, plan), least))
        self.assertGreater(len([plan for plan, least in zip(PLANS, LEAST) if plan != least]), 50)

    def test_the_least_plan_of_the_least_plan(self):
        for plan in PLANS:
            least = least_endless(plan)
            self.assertEqual(least_endless(least), least)
            self.assertTrue(all(is_needed_wait(least, wait) for wait in least[1]))

    def test_needless_waits_made_on_purpose(self):
        rng = random.Random(1)
        for plan, least in zip(PLANS[::2], LEAST[::2]):
            more = with_needless_waits(rng, plan)
            self.assertEqual(least_endless(more), least)
            for wait in set(more[1]) - set(plan[1]):
                self.assertIs(is_needed_wait(more, wait), False)

    def test_beside_a_row(self):
        row = (((0, 0), (1, 0), 0), ((1, 0), (2, 0), 1))
        for distance in range(4):
            wait = ((0, 0), (2, 0), distance)
            plan = with_waits(((1, 1, 1), row), [wait])
            self.assertIs(is_needed_wait(plan, wait), distance < 1)
            self.assertIs(is_needed_wait(plan, row[0]), True)
            self.assertIs(is_needed_wait(plan, row[1]), True)

    def test_one_pair_of_jobs_with_two_distances(self):
        for less in range(4):
            for more in range(less + 1, 4):
                plan = ((1, 2), (((0, 0), (1, 1), less), ((0, 0), (1, 1), more)))
                self.assertIs(is_needed_wait(plan, plan[1][0]), True)
                self.assertIs(is_needed_wait(plan, plan[1][1]), False)
                self.assertEqual(least_endless(plan), (plan[0], plan[1][:1]))

    def test_needless_because_of_links_of_a_queue(self):
        near = ((0, 1), (1, 0), 0)
        for a, b, distance, needed in (
                ((0, 0), (1, 0), 0, False), ((0, 1), (1, 1), 0, False), ((0, 1), (1, 0), 1, False),
                ((0, 2), (1, 0), 0, True), ((0, 2), (1, 0), 1, False), ((0, 2), (1, 1), 1, False)):
            plan = with_waits(((3, 2), ()), [near, (a, b, distance)])
            self.assertIs(is_needed_wait(plan, (a, b, distance)), needed, (a, b, distance))
            self.assertIs(is_needed_wait(plan, near), (a, b, distance) != ((0, 2), (1, 0), 0))

    def test_short_rows_only_with_a_circle(self):
        plan = ((1, 1), (((0, 0), (1, 0), 0), ((1, 0), (0, 0), 1)))
        for distance in (1, 2, 3):
            wait = ((0, 0), (1, 0), distance)
            self.assertIs(is_needed_wait(with_waits(plan, [wait]), wait), False)
        self.assertEqual(least_endless(plan), plan)
        alone = ((1, 1), (((0, 0), (1, 0), 3),))
        self.assertIs(is_needed_wait(alone, alone[1][0]), True)

    def test_without_a_needed_wait_more_standings_are_possible(self):
        for plan in PLANS[::3]:
            for wait in plan[1]:
                other = endless_samples.without(plan, wait)
                self.assertIs(parting_standing(plan, other) is not None, is_needed_wait(plan, wait))

    def test_wrong_arguments(self):
        self.check_invalid_endless(least_endless)
        self.check_stuck(least_endless)
        self.check_invalid_endless(is_needed_wait, PAIR[1][0])
        self.check_stuck(is_needed_wait, PAIR[1][0])
        self.check_unknown_endless_waits([plan for plan in PLANS if plan[1]][::20], is_needed_wait)


class PartingStandingTest(EndlessTest):
    def check(self, plan, other):
        standing = self.call(parting_standing, plan, other)
        if endless_samples.least_plan(plan) == endless_samples.least_plan(other):
            self.assertIsNone(standing)
        else:
            self.assertTrue(
                type(standing) is tuple and len(standing) == len(plan[0]) and
                all(type(many) is int and many >= 0 for many in standing))
            self.assertNotEqual(
                endless_samples.is_possible(plan, standing), endless_samples.is_possible(other, standing))

    def test_drawn_plans_with_the_same_sizes(self):
        rng = random.Random(2)
        for plan in PLANS[::2]:
            for many in (0, 2, 5):
                self.check(plan, endless_samples.random_sound(rng, plan[0], many))

    def test_more_and_less_and_farther_waits(self):
        rng = random.Random(3)
        for plan in PLANS[::2]:
            drawn = endless_samples.random_sound(rng, plan[0], 2)[1]
            more = with_waits(plan, drawn)
            if len(more[1]) <= 12 and not endless_samples.has_zero_circle(more):
                self.check(plan, more)
                self.check(more, plan)
            for wait in plan[1][:3]:
                less = endless_samples.without(plan, wait)
                self.check(plan, less)
                self.check(less, plan)
                if wait[2] < 3:
                    farther = with_waits(less, [(*wait[:2], wait[2] + 1)])
                    self.check(plan, farther)
                    self.check(farther, plan)

    def test_the_least_plan_and_other_needless_waits(self):
        rng = random.Random(4)
        for plan, least in zip(PLANS, LEAST):
            self.assertIsNone(self.call(parting_standing, plan, least))
            self.assertIsNone(parting_standing(least, plan))
            self.assertIsNone(parting_standing(plan, plan))
        for least in LEAST[::4]:
            self.assertIsNone(parting_standing(with_needless_waits(rng, least), with_needless_waits(rng, least)))

    def test_none_exactly_if_the_same_standings_are_possible(self):
        rng = random.Random(5)
        for _ in range(40):
            sizes = [rng.randint(1, 2), rng.randint(1, 2)]
            plan = endless_samples.random_sound(rng, sizes, 3, (0, 1))
            other = endless_samples.random_sound(rng, sizes, 3, (0, 1))
            same = all(
                endless_samples.is_possible(plan, standing) == endless_samples.is_possible(other, standing)
                for standing in product(range(8), repeat=2))
            self.assertIs(parting_standing(plan, other) is None, same)

    def test_values_that_are_no_other_plan(self):
        for plan in (PAIR, endless_samples.LINE, endless_samples.NOT_HELD):
            odd = samples.ODD_VALUES + endless_samples.NO_PLANS + [plan[0], plan[1], list(plan), plan + ((),)]
            odd += [(plan[0] + (1,), plan[1]), (plan[0][1:], ()), ((4, 4, 4), ()), endless_samples.SINGLE]
            for value in odd:
                self.check_raises(InvalidEndless, parting_standing, plan, value)
        self.check_raises(InvalidEndless, parting_standing, endless_samples.LINE, endless_samples.TWO_JOBS_STUCK)

    def test_the_other_plan_is_not_sound(self):
        for stuck in endless_samples.STUCK_PLANS:
            circle = self.check_raises(Stuck, parting_standing, (stuck[0], ()), stuck).circle
            self.assertTrue(endless_samples.is_circle(stuck, circle))
            self.assertEqual(sum(link[2] for link in circle), 0)

    def test_the_first_plan_first(self):
        self.check_invalid_endless(parting_standing, PAIR)
        self.check_stuck(parting_standing, PAIR)
        late, two = endless_samples.LATE_STUCK, endless_samples.TWO_JOBS_STUCK
        circle = self.check_raises(Stuck, parting_standing, late, two).circle
        self.assertTrue(endless_samples.is_circle(late, circle))
        self.check_raises(Stuck, parting_standing, late, None)
        self.check_raises(InvalidEndless, parting_standing, None, late)


if __name__ == "__main__":
    unittest.main()
