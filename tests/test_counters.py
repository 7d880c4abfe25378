import unittest

import samples
from checks import FunctionTest
from flagplans.counters import counters


def counters_by_point_12(plan):
    """For each pair of queues the most least waits that are open together at one of all possible moments."""
    least = samples.least_waits(plan)
    found = []
    for p in range(len(plan[0])):
        for q in range(len(plan[0])):
            between = tuple(wait for wait in least if (wait[0][0], wait[1][0]) == (p, q))
            if between:
                thinner = (plan[0], between)
                many = [len(samples.open_at(thinner, moment)) for moment in samples.possible_moments(plan)]
                found.append((p, q, max(many)))
    return found


class CountersTest(FunctionTest):
    def test_against_all_possible_moments(self):
        for plan in samples.SOUND_PLANS + [samples.PARALLEL] + samples.FULL[:2]:
            self.assertTrue(samples.same_kind(self.call(counters, plan), counters_by_point_12(plan)))

    def test_waits_there_and_back(self):
        self.assertEqual(self.call(counters, samples.CROSSED), [(0, 1, 1), (1, 0, 1)])
        waits = (((0, 0), (1, 1)), ((0, 1), (1, 2)), ((1, 0), (0, 2)), ((1, 3), (0, 3)))
        self.assertEqual(self.call(counters, ((4, 4), waits)), [(0, 1, 2), (1, 0, 2)])

    def test_waits_that_are_not_needed_do_not_count(self):
        self.assertEqual(self.call(counters, samples.DOUBLE), [(0, 1, 1)])
        through = (((0, 0), (1, 0)), ((0, 0), (2, 0)), ((1, 0), (2, 0)))
        self.assertEqual(self.call(counters, ((1, 1, 1), through)), [(0, 1, 1), (1, 2, 1)])

    def test_other_waits_limit_what_is_open_together(self):
        waits = (((0, 0), (1, 0)), ((0, 1), (1, 1)), ((0, 2), (1, 2)), ((1, 0), (0, 2)))
        self.assertEqual(self.call(counters, ((3, 3), waits)), [(0, 1, 2), (1, 0, 1)])

    def test_great_plans(self):
        self.assertEqual(self.call(counters, samples.PARALLEL), [(0, 2, 6), (1, 3, 6)])
        self.assertEqual(self.call(counters, samples.WIDE), [])
        self.assertEqual(self.call(counters, samples.EMPTY), [])

    def test_wrong_plans(self):
        self.check_invalid_plan(counters)
        self.check_unsound(counters)


if __name__ == "__main__":
    unittest.main()
