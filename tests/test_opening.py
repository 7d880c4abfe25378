import unittest

import samples
from checks import FunctionTest
from flagplans.opening import busiest_moment, most_open, open_waits


class OpenWaitsTest(FunctionTest):
    def test_at_all_moments(self):
        for plan in samples.PLANS + samples.FULL[:1]:
            for moment in samples.possible_moments(plan):
                self.assertEqual(open_waits(plan, moment), sorted(samples.open_at(plan, moment)))
            self.call(open_waits, plan, moment)

    def test_plans_with_rings_have_moments(self):
        self.assertEqual(self.call(open_waits, samples.LATE_RING, (2, 1, 0)), [((1, 0), (0, 2))])
        self.assertEqual(self.call(open_waits, samples.SMALL_RING, (0, 0)), [])

    def test_wrong_moments_and_plans(self):
        self.check_invalid_moment(open_waits)
        self.check_invalid_plan(open_waits, (0, 0))


class BusiestTest(FunctionTest):
    def test_against_all_moments(self):
        for plan in samples.SOUND_PLANS + samples.BIG_SOUND_PLANS:
            right = samples.possible_moments(plan)
            counts = {moment: len(samples.open_at(plan, moment)) for moment in right}
            most = max(counts.values())
            self.assertEqual(self.call(most_open, plan), most)
            self.assertEqual(self.call(busiest_moment, plan), min(m for m in right if counts[m] == most))

    def test_plans_without_waits(self):
        for sizes in ((0,), (6,), (2, 0, 3), (6, 6, 6, 6)):
            self.assertEqual(self.call(most_open, (sizes, ())), 0)
            self.assertEqual(self.call(busiest_moment, (sizes, ())), (0,) * len(sizes))

    def test_all_waits_open_at_once(self):
        self.assertEqual(most_open(samples.PARALLEL), 12)
        self.assertEqual(busiest_moment(samples.PARALLEL), (6, 6, 0, 0))

    def test_wrong_plans(self):
        for function in (most_open, busiest_moment):
            self.check_invalid_plan(function)
            self.check_unsound(function)


if __name__ == "__main__":
    unittest.main()
