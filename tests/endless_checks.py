"""Checks that the tests of several functions for endless plans share."""

import endless_samples
import samples
from checks import FunctionTest
from flagplans.errors import UnknownWait
from flagplans.standings import is_standing
from flagplans.wrongs import InvalidEndless, InvalidStanding, NotHeld, Stuck


class EndlessTest(FunctionTest):
    """Tests of functions that take an endless plan."""

    def check_invalid_endless(self, function, *others):
        """Nothing else than an endless plan is taken, whatever the other arguments are."""
        for value in samples.ODD_VALUES + endless_samples.NO_PLANS:
            self.check_raises(InvalidEndless, function, value, *others)
            self.check_raises(InvalidEndless, function, value, *[None for _ in others])

    def check_stuck(self, function, *others):
        """No endless plan with a circle of the distance 0 is taken, whatever the other arguments are."""
        for plan in endless_samples.STUCK_PLANS:
            for arguments in (others, [None for _ in others]):
                circle = self.check_raises(Stuck, function, plan, *arguments).circle
                self.assertTrue(endless_samples.is_circle(plan, circle))
                self.assertEqual(sum(distance for first, second, distance in circle), 0)
                again = self.check_raises(Stuck, function, plan, *arguments).circle
                self.assertEqual(again, circle)
                self.assertIsNot(again, circle)

    def check_invalid_standing(self, plans, function, *others):
        """No value is taken for a standing that is not a possible one."""
        for plan, _, standing in endless_samples.walks(3, plans, (5,)):
            odd = samples.ODD_VALUES + samples.variants(standing) + [list(standing), plan, plan[0] + (1,)]
            beyond = [endless_samples.one_more(standing, queue) for queue in range(len(standing))]
            for value in odd + beyond:
                if not is_standing(plan, value):
                    self.check_raises(InvalidStanding, function, plan, value, *others)

    def check_not_held(self, function, *others):
        """No endless plan is taken that has a wait on no circle: the error names the first one."""
        for plan in endless_samples.NOT_HELD_PLANS:
            for arguments in (others, [None for _ in others]):
                wait = self.check_raises(NotHeld, function, plan, *arguments).wait
                self.assertTrue(samples.same_kind(wait, endless_samples.first_not_held(plan)))

    def check_unknown_endless_waits(self, plans, function, between=()):
        """No value is taken for a wait that is not one of the plan; the values of between stand before it."""
        for plan in plans:
            odd = samples.ODD_VALUES + [(), plan, plan[1], ((0, 0), (1, 0)), ((0, 0), (0, 0), 1)]
            for wait in plan[1][:2]:
                odd += samples.variants(wait) + [(wait[1], wait[0], wait[2]), wait + (0,)]
                odd += [(*wait[:2], distance) for distance in range(-1, 5)]
            for value in odd:
                if not samples.is_one_of(value, plan[1]):
                    self.check_keeps(UnknownWait, "wait", function, value, plan, *between, value)

    def check_possible(self, plan, standing):
        """A standing that was returned is a possible one."""
        self.assertTrue(endless_samples.is_standing(plan, standing), (plan, standing))
