import random
import unittest

import endless_samples
import samples
from endless_checks import EndlessTest
from flagplans.errors import UnknownWait
from flagplans.opened import bound_of, full_standing, load, open_rounds
from flagplans.wrongs import InvalidStanding, NotHeld

PLANS = endless_samples.HELD_PLANS + endless_samples.NOT_HELD_PLANS
WITH_WAITS = [plan for plan in PLANS if plan[1]]
SOME_PLANS = WITH_WAITS[::12]
PAIR = endless_samples.PAIR
WAIT = PAIR[1][0]


def far_walk(plan, queue, many):
    """Where a walk with so many turns leads to that goes on with one queue wherever it is ready."""
    standing = (0,) * len(plan[0])
    while sum(standing) < many:
        ready = endless_samples.ready_at(plan, standing)
        chosen = queue if queue in ready else min(ready, key=lambda other: standing[other])
        standing = endless_samples.one_more(standing, chosen)
    return standing


class OpenRoundsTest(EndlessTest):
    def check(self, plan, standing):
        for wait in plan[1]:
            found = open_rounds(plan, standing, wait)
            self.assertTrue(samples.same_kind(found, endless_samples.open_rounds(plan, standing, wait)), (plan, wait))
        self.assertTrue(samples.same_kind(load(plan, standing), endless_samples.load(plan, standing)))

    def test_along_walks(self):
        for plan, walk, _ in endless_samples.walks(1, PLANS[::2], (20,)):
            standing = (0,) * len(plan[0])
            self.check(plan, standing)
            for queue in walk:
                standing = endless_samples.one_more(standing, queue)
                self.check(plan, standing)

    def test_far_on(self):
        for plan, _, standing in endless_samples.walks(2, PLANS[::3], (60, 150)):
            self.check(plan, standing)

    def test_hundreds_of_turns(self):
        for plan, _, standing in endless_samples.walks(3, WITH_WAITS[::16], (400,)):
            self.check(plan, standing)

    def test_one_queue_as_far_ahead_as_it_can_be(self):
        for plan in WITH_WAITS[::6]:
            for queue in range(len(plan[0])):
                self.check(plan, far_walk(plan, queue, 60))
        for plan in SOME_PLANS[::4]:
            self.check(plan, far_walk(plan, 0, 400))

    def test_no_round_before_the_first_one(self):
        plan = ((1, 1), (((0, 0), (1, 0), 3),))
        for standing, expected in (((0, 0), []), ((0, 3), []), ((2, 0), [0, 1]), ((2, 3), [0, 1]), ((2, 4), [1])):
            self.assertEqual(self.call(open_rounds, plan, standing, plan[1][0]), expected)
            self.assertEqual(self.call(load, plan, standing), len(expected))

    def test_a_list_of_its_own(self):
        for plan, _, standing in endless_samples.walks(4, WITH_WAITS[::3], (0, 9, 50)):
            self.call(open_rounds, plan, standing, plan[1][-1])
            self.call(load, plan, standing)

    def test_wrong_arguments(self):
        for wait in (WAIT, None):
            self.check_invalid_endless(open_rounds, (0, 0), wait)
            self.check_stuck(open_rounds, (0, 0), wait)
            self.check_invalid_standing(SOME_PLANS, open_rounds, wait)
        self.check_invalid_endless(load, (0, 0))
        self.check_stuck(load, (0, 0))
        self.check_invalid_standing(SOME_PLANS, load)

    def test_unknown_waits(self):
        for plan, _, standing in endless_samples.walks(5, SOME_PLANS, (6,)):
            self.check_unknown_endless_waits([plan], open_rounds, (standing,))

    def test_the_standing_is_looked_at_before_the_wait(self):
        self.check_raises(InvalidStanding, open_rounds, PAIR, (0, 1), None)
        self.check_raises(UnknownWait, open_rounds, PAIR, (1, 0), None)


class BoundTest(EndlessTest):
    def test_all_waits(self):
        for plan in PLANS:
            table = endless_samples.gap_table(plan)
            for wait in plan[1]:
                back = table.get((wait[1], wait[0]))
                expected = None if back is None else wait[2] + back
                self.assertTrue(samples.same_kind(self.call(bound_of, plan, wait), expected))

    def test_a_bound_is_a_least_distance_of_circles_with_the_wait(self):
        for plan in WITH_WAITS:
            if sum(plan[0]) <= 5 and len(plan[1]) <= 5:
                circles = endless_samples.circles_of(plan)
                for wait in plan[1]:
                    with_wait = [sum(link[2] for link in circle) for circle in circles if circle[0] == wait]
                    self.assertEqual(bound_of(plan, wait), min(with_wait) if with_wait else None)

    def test_no_walk_opens_a_wait_in_more_rounds(self):
        rng = random.Random(6)
        for plan in WITH_WAITS[::2]:
            bounds = {wait: bound_of(plan, wait) for wait in plan[1]}
            for many in (30, 60):
                _, standing = endless_samples.random_walk(rng, plan, many)
                standings = [standing] + [far_walk(plan, queue, many) for queue in range(len(plan[0]))]
                for wait, bound in bounds.items():
                    if bound is not None:
                        self.assertLessEqual(max(len(open_rounds(plan, there, wait)) for there in standings), bound)

    def test_a_wait_that_is_not_held_is_open_in_ever_more_rounds(self):
        rng = random.Random(7)
        for plan in endless_samples.NOT_HELD_PLANS[::3]:
            wait = endless_samples.first_not_held(plan)
            others = [queue for queue in range(len(plan[0])) if queue != wait[1][0]]
            _, near = endless_samples.random_walk(rng, plan, 40, others)
            _, far = endless_samples.random_walk(rng, plan, 160, others)
            self.assertLess(len(open_rounds(plan, near, wait)), len(open_rounds(plan, far, wait)))

    def test_wrong_arguments(self):
        for function in (bound_of, full_standing):
            self.check_invalid_endless(function, WAIT)
            self.check_stuck(function, WAIT)
            self.check_unknown_endless_waits(SOME_PLANS + [endless_samples.SINGLE], function)


class FullStandingTest(EndlessTest):
    def test_as_many_rounds_as_the_bound(self):
        for plan in PLANS:
            for wait in plan[1]:
                bound = bound_of(plan, wait)
                if bound is not None:
                    standing = self.call(full_standing, plan, wait)
                    self.check_possible(plan, standing)
                    self.assertEqual(len(endless_samples.open_rounds(plan, standing, wait)), bound)

    def test_not_held(self):
        for plan in endless_samples.NOT_HELD_PLANS:
            for wait in plan[1]:
                if bound_of(plan, wait) is None:
                    self.check_keeps(NotHeld, "wait", full_standing, wait, plan, wait)

    def test_unknown_waits_first(self):
        value = ((0, 0), (1, 0), 2)
        self.check_keeps(UnknownWait, "wait", full_standing, value, endless_samples.NOT_HELD, value)


if __name__ == "__main__":
    unittest.main()
