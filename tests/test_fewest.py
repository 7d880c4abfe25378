import unittest
from itertools import product

import samples
from checks import FunctionTest
from flagplans.fewest import assign_flags, fewest_flags
from flagplans.flagging import clash, is_flags
from flagplans.least import least_plan
from flagplans.opening import most_open


class FewestTest(FunctionTest):
    def test_as_many_as_the_most_open_waits(self):
        for plan in samples.SOUND_PLANS + samples.BIG_SOUND_PLANS:
            most = max(len(samples.open_at(plan, moment)) for moment in samples.possible_moments(plan))
            self.assertEqual(self.call(fewest_flags, plan), most)
            self.assertEqual(most_open(plan), most)

    def test_flags_are_clean_and_use_just_the_first_numbers(self):
        for plan in samples.SOUND_PLANS + samples.BIG_SOUND_PLANS:
            flags = self.call(assign_flags, plan)
            self.assertIs(is_flags(plan, flags), True)
            self.assertEqual(sorted(set(flags)), list(range(fewest_flags(plan))))
            self.assertIsNone(clash(plan, flags))
            flag_of = dict(zip(plan[1], flags))
            for moment in samples.possible_moments(plan):
                used = [flag_of[wait] for wait in samples.open_at(plan, moment)]
                self.assertEqual(len(used), len(set(used)))

    def test_fewer_flags_always_clash(self):
        for plan in samples.SOUND_PLANS:
            fewer = fewest_flags(plan) - 1
            if 0 < fewer and fewer ** len(plan[1]) <= 64:
                for flags in product(range(fewer), repeat=len(plan[1])):
                    self.assertIsNotNone(clash(plan, flags))

    def test_the_least_plan_needs_no_more(self):
        for plan in samples.SOUND_PLANS + samples.BIG_SOUND_PLANS:
            self.assertLessEqual(fewest_flags(least_plan(plan)), fewest_flags(plan))

    def test_many_great_plans(self):
        for plan in samples.random_plans(21, 150, 6, 6, 24):
            many = fewest_flags(plan)
            self.assertEqual(many, most_open(plan))
            self.assertEqual(sorted(set(assign_flags(plan))), list(range(many)))
            self.assertIsNone(clash(plan, assign_flags(plan)))

    def test_plans_without_waits(self):
        for sizes in ((0,), (6,), (2, 0, 3), (6, 6, 6, 6)):
            self.assertEqual(self.call(fewest_flags, (sizes, ())), 0)
            self.assertEqual(self.call(assign_flags, (sizes, ())), ())

    def test_wrong_plans(self):
        for function in (fewest_flags, assign_flags):
            self.check_invalid_plan(function)
            self.check_unsound(function)


if __name__ == "__main__":
    unittest.main()
