import random
import unittest
from itertools import product

import endless_samples
import samples
from endless_checks import EndlessTest
from flagplans.errors import UnknownJob
from flagplans.standings import finished_rounds, is_standing, is_walk, ready_queues, walk_to

HUGE = samples.HUGE
SMALL = endless_samples.SMALL_SOUND_PLANS[:60]
SOME_PLANS = endless_samples.SOUND_PLANS[:60] + endless_samples.SOUND_PLANS[-30:]


def is_walk_by_point_20(plan, value):
    if type(value) is not list:
        return False
    standing = (0,) * len(plan[0])
    for queue in value:
        if type(queue) is not int or queue not in endless_samples.ready_at(plan, standing):
            return False
        standing = endless_samples.one_more(standing, queue)
    return True


class IsStandingTest(EndlessTest):
    def test_all_small_standings(self):
        for plan in SMALL:
            limit = 9 if len(plan[0]) < 3 else 4
            for value in product(range(limit), repeat=len(plan[0])):
                self.assertIs(is_standing(plan, value), endless_samples.is_possible(plan, value), (plan, value))

    def test_exactly_where_walks_lead(self):
        for plan in SMALL[:30]:
            limit = 5
            reached = {(0,) * len(plan[0])}
            waiting = list(reached)
            while waiting:
                standing = waiting.pop()
                for queue in endless_samples.ready_at(plan, standing):
                    behind = endless_samples.one_more(standing, queue)
                    if behind not in reached and max(behind) <= limit:
                        reached.add(behind)
                        waiting.append(behind)
            for value in product(range(limit + 1), repeat=len(plan[0])):
                self.assertIs(is_standing(plan, value), value in reached)

    def test_along_walks(self):
        for plan, walk, _ in endless_samples.walks(1, SOME_PLANS, (12, 40)):
            standing = (0,) * len(plan[0])
            for queue in [None] + walk:
                standing = standing if queue is None else endless_samples.one_more(standing, queue)
                self.assertIs(is_standing(plan, standing), True)
                for other in range(len(standing)):
                    near = endless_samples.one_more(standing, other)
                    self.assertIs(is_standing(plan, near), other in endless_samples.ready_at(plan, standing))
            self.call(is_standing, plan, standing)

    def test_values_near_possible_standings(self):
        for plan, _, standing in endless_samples.walks(2, SOME_PLANS, (0, 7)):
            for value in samples.variants(standing) + [standing + (0,), standing[1:], list(standing)]:
                if type(value) is tuple and any(type(many) is int and many > 99 for many in value):
                    continue
                self.assertIs(is_standing(plan, value), endless_samples.is_standing(plan, value), (plan, value))

    def test_huge_numbers(self):
        free = ((1, 1), ())
        self.assertIs(is_standing(free, (HUGE, 0)), True)
        self.assertIs(is_standing(free, (HUGE, -HUGE)), False)
        pair = endless_samples.PAIR
        for late in range(-2, 5):
            self.assertIs(is_standing(pair, (HUGE + late, HUGE)), 0 <= late <= 2)
            self.assertIs(is_standing(endless_samples.LINE, (2 * HUGE + late, HUGE)), 0 <= late <= 2)
        self.assertIs(is_standing(pair, (0, HUGE)), False)

    def test_any_value(self):
        for plan in SOME_PLANS[::5]:
            for value in samples.ODD_VALUES + [(), plan, plan[1], [0] * len(plan[0]), (False,) * len(plan[0])]:
                if value not in ((HUGE,), (HUGE, HUGE)):
                    self.assertIs(self.call(is_standing, plan, value), endless_samples.is_standing(plan, value))

    def test_wrong_plans(self):
        self.check_invalid_endless(is_standing, (0, 0))
        self.check_stuck(is_standing, (0, 0))


class InvalidStandingTest(EndlessTest):
    """The functions that take a possible standing only."""

    def test_finished_rounds(self):
        for job in ((0, 0), (9, 9), None):
            self.check_invalid_standing(SOME_PLANS[::3], finished_rounds, job)
        self.check_invalid_endless(finished_rounds, (0, 0), (0, 0))
        self.check_stuck(finished_rounds, (0, 0), (0, 0))

    def test_ready_queues(self):
        self.check_invalid_standing(SOME_PLANS[::3], ready_queues)
        self.check_invalid_endless(ready_queues, (0, 0))
        self.check_stuck(ready_queues, (0, 0))

    def test_walk_to(self):
        self.check_invalid_standing(SOME_PLANS[::3], walk_to)
        self.check_invalid_endless(walk_to, (0, 0))
        self.check_stuck(walk_to, (0, 0))


class FinishedRoundsTest(EndlessTest):
    def test_the_number_of_finished_turns(self):
        for plan, _, standing in endless_samples.walks(4, SOME_PLANS, (0, 1, 2, 3, 5, 9, 30)):
            finished = endless_samples.turns_of(plan[0], standing)
            for job in samples.all_jobs(plan[0]):
                expected = len([turn for turn in finished if turn[0] == job])
                self.assertTrue(samples.same_kind(finished_rounds(plan, standing, job), expected))
            self.call(finished_rounds, plan, standing, job)

    def test_all_numbers_of_one_queue(self):
        for size in range(1, 5):
            plan = ((size, 2), ())
            for many in range(14):
                rounds = [finished_rounds(plan, (many, 0), (0, place)) for place in range(size)]
                self.assertEqual(sum(rounds), many)
                self.assertEqual(rounds, sorted(rounds, reverse=True))
                self.assertLessEqual(rounds[0] - rounds[-1], 1)
                self.assertEqual(finished_rounds(plan, (many, 0), (1, 1)), 0)

    def test_unknown_jobs(self):
        for plan, _, standing in endless_samples.walks(5, SOME_PLANS[::6], (6,)):
            right = samples.all_jobs(plan[0])
            near = [(0, plan[0][0]), (len(plan[0]), 0), (-1, 0), (0, -1), standing, plan]
            for value in samples.ODD_VALUES + samples.variants(right[-1]) + near:
                if not samples.is_one_of(value, right):
                    self.check_keeps(UnknownJob, "job", finished_rounds, value, plan, standing, value)


class ReadyQueuesTest(EndlessTest):
    def test_along_walks(self):
        for plan, walk, _ in endless_samples.walks(6, SOME_PLANS, (15, 60)):
            standing = (0,) * len(plan[0])
            for queue in walk:
                self.assertTrue(samples.same_kind(
                    ready_queues(plan, standing), endless_samples.ready_at(plan, standing)))
                standing = endless_samples.one_more(standing, queue)
            self.call(ready_queues, plan, standing)

    def test_some_queue_is_always_ready(self):
        rng = random.Random(7)
        for plan in endless_samples.SOUND_PLANS:
            standing = (0,) * len(plan[0])
            for _ in range(40):
                ready = ready_queues(plan, standing)
                self.assertTrue(ready)
                standing = endless_samples.one_more(standing, rng.choice(ready))

    def test_queues_that_wait(self):
        self.assertEqual(self.call(ready_queues, endless_samples.PAIR, (0, 0)), [0])
        self.assertEqual(self.call(ready_queues, endless_samples.PAIR, (1, 0)), [0, 1])
        self.assertEqual(self.call(ready_queues, endless_samples.PAIR, (2, 0)), [1])
        self.assertEqual(self.call(ready_queues, ((1, 1, 1), ()), (5, 0, 2)), [0, 1, 2])


class IsWalkTest(EndlessTest):
    def check(self, plan, value):
        self.assertIs(is_walk(plan, value), is_walk_by_point_20(plan, value), (plan, value))

    def test_walks_and_changed_walks(self):
        rng = random.Random(8)
        for plan, walk, _ in endless_samples.walks(9, SOME_PLANS, (0, 4, 25)):
            self.assertIs(self.call(is_walk, plan, walk), True)
            self.assertIs(is_walk(plan, tuple(walk)), False)
            for k in range(len(walk)):
                self.assertIs(is_walk(plan, walk[:k]), True)
                self.check(plan, walk[:k] + walk[k + 1:])
                self.check(plan, walk[:k] + [rng.randrange(-1, 5)] + walk[k:])
                self.check(plan, walk[:k] + walk[k + 1:k + 2] + walk[k:k + 1] + walk[k + 2:])
                for value in (True, False, None, -1, len(plan[0]), HUGE, "0", (0,), [0]):
                    self.assertIs(is_walk(plan, walk[:k] + [value] + walk[k + 1:]), False)

    def test_all_short_rows(self):
        for plan in SMALL[:25]:
            for many in range(5):
                for row in product(range(len(plan[0])), repeat=many):
                    self.check(plan, list(row))

    def test_any_value(self):
        for plan in SOME_PLANS[::5]:
            for value in samples.ODD_VALUES + [(), plan, plan[1], list(plan[0]), list(plan)]:
                self.assertIs(self.call(is_walk, plan, value), is_walk_by_point_20(plan, value))

    def test_long_walks(self):
        for plan, walk, _ in endless_samples.walks(10, SOME_PLANS[::6], (1500,)):
            self.assertIs(is_walk(plan, walk), True)

    def test_every_walk_can_be_gone_on_with(self):
        for plan, walk, standing in endless_samples.walks(11, SOME_PLANS, (3, 30)):
            more = list(walk)
            while min(standing) <= 12:
                ready = ready_queues(plan, standing)
                more.append(min(ready, key=lambda queue: standing[queue]))
                standing = endless_samples.one_more(standing, more[-1])
                self.assertLess(len(more), 2000)
            self.assertIs(is_walk(plan, more), True)

    def test_wrong_plans(self):
        self.check_invalid_endless(is_walk, [0])
        self.check_stuck(is_walk, [0])


class WalkToTest(EndlessTest):
    def check(self, plan, standing):
        walk = walk_to(plan, standing)
        self.assertTrue(is_walk_by_point_20(plan, walk), (plan, standing))
        self.assertEqual(tuple(walk.count(queue) for queue in range(len(standing))), standing)

    def test_all_small_standings(self):
        for plan in SMALL[:30]:
            for standing in product(range(5), repeat=len(plan[0])):
                if endless_samples.is_possible(plan, standing):
                    self.check(plan, standing)

    def test_where_random_walks_lead(self):
        for plan, _, standing in endless_samples.walks(12, SOME_PLANS, (0, 1, 11, 60)):
            self.check(plan, standing)
            self.call(walk_to, plan, standing)

    def test_where_some_queues_stay_behind(self):
        rng = random.Random(13)
        for plan in SOME_PLANS:
            for queues in ((0,), (1, 2), (0, 3), (0, 1, 3)):
                _, standing = endless_samples.random_walk(rng, plan, 50, queues)
                self.check(plan, standing)

    def test_400_turns(self):
        for plan, _, standing in endless_samples.walks(14, SOME_PLANS[::6], (400,)):
            self.assertEqual(sum(standing), 400)
            self.check(plan, standing)


if __name__ == "__main__":
    unittest.main()
