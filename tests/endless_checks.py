"""Checks that the tests of several functions for endless plans share."""

import endless_samples
import samples
from checks import FunctionTest
from flagplans.wrongs import InvalidEndless, Stuck


class EndlessTest(FunctionTest):
    """Tests of functions that take an endless plan."""

    def check_invalid_endless(self, function, *others):
        """Nothing else than an endless plan is taken, whatever the other arguments are."""
        for value in samples.ODD_VALUES + endless_samples.NO_PLANS:
            self.check_raises(InvalidEndless, function, value, *others)
            self.check_raises(InvalidEndless, function, value, *[None for _ in others])

    def check_stuck(self, function, *others):
        """No endless plan with a circle of the distance 0 is taken, whatever the other arguments are."""
        for plan in endless_samples.STUCK_PLANS:
            for arguments in (others, [None for _ in others]):
                circle = self.check_raises(Stuck, function, plan, *arguments).circle
                self.assertTrue(endless_samples.is_circle(plan, circle))
                self.assertEqual(sum(distance for first, second, distance in circle), 0)
                again = self.check_raises(Stuck, function, plan, *arguments).circle
                self.assertEqual(again, circle)
                self.assertIsNot(again, circle)
