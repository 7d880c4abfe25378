import random
import unittest

import samples
from checks import FunctionTest
from flagplans.errors import UnknownWait
from flagplans.flagging import clash, is_flags, may_share


def clash_by_point_9(plan, flags):
    """The least possible moment at which the flags clash, or None."""
    return next((moment for moment in samples.possible_moments(plan) if samples.clashes_at(plan, flags, moment)), None)


class MayShareTest(FunctionTest):
    def test_all_pairs_of_waits(self):
        for plan in samples.SOUND_PLANS + [samples.PARALLEL] + samples.FULL[:2]:
            together = set()
            for moment in samples.possible_moments(plan):
                opened = samples.open_at(plan, moment)
                together |= {(wait, other) for wait in opened for other in opened if wait != other}
            for wait in plan[1]:
                for other in plan[1]:
                    self.assertIs(may_share(plan, wait, other), (wait, other) not in together)
                self.assertIs(self.call(may_share, plan, wait, wait), True)

    def test_unknown_waits(self):
        for plan in (samples.PAIR, samples.DOUBLE, samples.EMPTY, samples.FULL[0]):
            odd = samples.ODD_VALUES + [plan, plan[1], ((0, 1), (1, 0), 0), ((1, 0), (0, 0))]
            for value in odd + samples.variants(((0, 0), (1, 0))):
                if samples.is_one_of(value, plan[1]):
                    continue
                self.check_keeps(UnknownWait, "wait", may_share, value, plan, value, value)
                self.check_keeps(UnknownWait, "wait", may_share, value, plan, value, None)
                for wait in plan[1][:1]:
                    self.check_keeps(UnknownWait, "wait", may_share, value, plan, value, wait)
                    self.check_keeps(UnknownWait, "wait", may_share, value, plan, wait, value)

    def test_wrong_plans_first(self):
        self.check_invalid_plan(may_share, ((0, 0), (1, 0)), ((0, 0), (1, 0)))
        self.check_unsound(may_share, ((0, 0), (1, 0)), ((0, 0), (1, 0)))


class IsFlagsTest(FunctionTest):
    def test_flags_and_changed_ones(self):
        for plan in samples.PLANS:
            many = len(plan[1])
            for flags in ((0,) * many, (23,) * many, tuple(range(many))):
                self.assertIs(self.call(is_flags, plan, flags), True)
                for value in samples.variants(flags) + [list(flags), flags + (0,), flags[1:]]:
                    self.assertIs(is_flags(plan, value), samples.are_flags(plan, value))

    def test_numbers_just_outside(self):
        for flag in (-1, 24, 25, -24, samples.HUGE, True, False, None, "0", (0,)):
            self.assertIs(is_flags(samples.PAIR, (0, flag)), False)
            self.assertIs(is_flags(samples.PAIR, (flag, 23)), False)
        for flag in range(24):
            self.assertIs(is_flags(samples.SMALL_RING, (flag, 23 - flag)), True)

    def test_any_value(self):
        for plan in samples.PLANS:
            for value in samples.ODD_VALUES + [plan, plan[1], ()]:
                self.assertIs(self.call(is_flags, plan, value), samples.are_flags(plan, value))

    def test_wrong_plans(self):
        self.check_invalid_plan(is_flags, (0, 1))


class ClashTest(FunctionTest):
    def test_few_and_many_flags(self):
        rng = random.Random(8)
        for plan in samples.SOUND_PLANS + samples.FULL[:2]:
            many = len(plan[1])
            for different in (1, 2, 3, 4, 6, 24):
                flags = tuple(rng.randrange(different) for _ in range(many))
                self.assertEqual(self.call(clash, plan, flags), clash_by_point_9(plan, flags))
            self.assertIsNone(clash(plan, tuple(range(many))))

    def test_great_plans(self):
        self.assertIsNone(self.call(clash, samples.WIDE, ()))
        self.assertIsNone(self.call(clash, samples.PARALLEL, tuple(range(12))))
        self.assertEqual(self.call(clash, samples.PARALLEL, tuple(range(11)) + (0,)), (1, 6, 0, 0))

    def test_no_flags(self):
        self.check_invalid_flags(clash, samples.SOUND_PLANS)

    def test_wrong_plans_first(self):
        self.check_invalid_plan(clash, (0, 1))
        self.check_unsound(clash, (0, 1))


if __name__ == "__main__":
    unittest.main()
