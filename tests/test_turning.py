import random
import unittest
from math import lcm

import endless_samples
import samples
from endless_checks import EndlessTest
from flagplans.opened import load
from flagplans.tours import fullest_standing, greatest_load
from flagplans.turning import fewest_turning, is_turning, turning_clash, turning_flags
from flagplans.wrongs import InvalidTurning

PLANS = endless_samples.HELD_PLANS
SMALL = [plan for plan in PLANS if sum(plan[0]) <= 6 and len(plan[1]) <= 4]
NO_WAITS = [plan for plan in PLANS if not plan[1]]
PAIR = endless_samples.PAIR
HUGE = samples.HUGE


def clashes_at(plan, flags, standing):
    """Whether two different tuples (number of a wait, round) that are open at the standing have one flag."""
    used = [
        endless_samples.flag_of(flags, number, turn_round)
        for number, wait in enumerate(plan[1])
        for turn_round in endless_samples.open_rounds(plan, standing, wait)]
    return len(set(used)) < len(used)


def random_rows(rng, plan, lengths, most):
    """Turning flags with rows of some of these lengths and flags below a number."""
    return tuple(
        tuple(rng.randrange(most) for _ in range(rng.choice(lengths))) for _ in plan[1])


class TurningTest(EndlessTest):
    def check_clash(self, plan, flags, found):
        """What turning_clash returned, if not None, is a clash."""
        self.assertIs(type(found), tuple)
        standing, one, other = found
        self.check_possible(plan, standing)
        self.assertNotEqual(one, other)
        for entry in (one, other):
            self.assertEqual([type(value) for value in (entry, *entry)], [tuple, int, int])
            number, turn_round = entry
            self.assertIn(number, range(len(plan[1])))
            self.assertIn(turn_round, endless_samples.open_rounds(plan, standing, plan[1][number]))
        self.assertEqual(endless_samples.flag_of(flags, *one), endless_samples.flag_of(flags, *other))


class IsTurningTest(TurningTest):
    def check(self, plan, value):
        self.assertIs(is_turning(plan, value), endless_samples.is_turning(plan, value))
        if not endless_samples.is_turning(plan, value):
            self.check_raises(InvalidTurning, turning_clash, plan, value)

    def test_lengths_of_rows(self):
        for many in (0, 1, 2, 499, 500, 501):
            row = tuple(range(min(many, 500))) + (0,) * (many - 500)
            self.assertEqual(len(row), many)
            self.check(PAIR, (row, (7,)))
            self.check(PAIR, ((7,), row))
            self.assertIs(self.call(is_turning, PAIR, (row, row)), 1 <= many <= 500)

    def test_entries(self):
        for entry in (0, 1, 498, 499, 500, -1, HUGE, -HUGE, True, False, None, "0", (0,), [0]):
            for value in (((entry,), (2,)), ((2,), (entry,)), ((3, entry, 4), (2,)), ((2,), (3,) * 200 + (entry,))):
                self.check(PAIR, value)
        self.assertIs(is_turning(PAIR, ((499,), (0, 499))), True)

    def test_changed_flags(self):
        rng = random.Random(1)
        for plan in PLANS[::5]:
            flags = random_rows(rng, plan, (1, 2, 3), 500)
            self.check(plan, flags)
            odd = samples.variants(flags) + [flags[1:], flags + ((0,),), list(flags), tuple(map(list, flags)), ()]
            for value in odd:
                self.check(plan, value)

    def test_any_value(self):
        for plan in PLANS[::12] + NO_WAITS:
            for value in samples.ODD_VALUES + [(), ((0,),), ((0,), (1,)), plan, plan[0], plan[1]]:
                self.check(plan, value)
                self.call(is_turning, plan, value)

    def test_wrong_plans(self):
        flags = ((0,), (1,))
        for function in (is_turning, turning_clash):
            self.check_invalid_endless(function, flags)
            self.check_stuck(function, flags)
            self.check_not_held(function, flags)
        for function in (fewest_turning, turning_flags):
            self.check_invalid_endless(function)
            self.check_stuck(function)
            self.check_not_held(function)


class ClashTest(TurningTest):
    def check(self, plan, flags, expected=None):
        found = self.call(turning_clash, plan, flags)
        if found is not None:
            self.check_clash(plan, flags, found)
        clash = endless_samples.has_clash(plan, flags) if expected is None else expected
        self.assertIs(found is not None, clash, (plan, flags))

    def test_drawn_flags(self):
        rng = random.Random(2)
        for plan in SMALL:
            for lengths, most in (((1,), 3), ((1, 2), 6), ((2, 3), 9), ((3,), 12)):
                self.check(plan, random_rows(rng, plan, lengths, most))

    def test_flags_that_change_slowly_out_of_clean_ones(self):
        rng = random.Random(3)
        for plan in SMALL[::2]:
            flags = [list(row) for row in turning_flags(plan)]
            if flags and lcm(*map(len, flags)) <= 8:
                for _ in range(4):
                    row = rng.choice(flags)
                    row[rng.randrange(len(row))] = rng.randrange(fewest_turning(plan) + 2)
                    self.check(plan, tuple(map(tuple, flags)))

    def test_one_wait_with_one_flag_in_several_rounds(self):
        plan = ((1, 1), (((0, 0), (1, 0), 0), ((1, 0), (0, 0), 3)))
        for many in range(1, 8):
            rows = (tuple(range(many)), tuple(range(10, 10 + many)))
            self.check(plan, rows, many < 3)
        self.check(plan, ((0, 1, 0, 2), (10, 11, 12)), True)
        self.check(plan, ((0, 1, 2), (10, 11, 12, 10)), True)

    def test_rows_of_different_lengths(self):
        plan = ((1, 1), (((0, 0), (1, 0), 0), ((1, 0), (0, 0), 1)))
        self.check(plan, ((0, 1, 2), (0, 1)), False)
        plan = ((2, 2), (((0, 0), (1, 0), 0), ((0, 1), (1, 1), 0), ((1, 1), (0, 0), 1)))
        for rows, expected in (
                (((0, 1), (2, 3, 4), (5,)), False), (((0, 1), (2, 3, 0), (5,)), True),
                (((0, 1, 0, 1), (1, 0), (5,)), False), (((0, 1, 0, 1), (1, 0, 1, 0, 1, 0, 1, 1), (5,)), True)):
            self.check(plan, rows, expected)
            self.assertIs(endless_samples.has_clash(plan, rows), expected)

    def test_queues_that_do_not_wait_for_each_other(self):
        plan = endless_samples.TWO_PAIRS
        apart = ((0, 1, 2, 3), (0, 1, 2, 3), (4, 5, 6, 7), (8, 9, 10, 11))
        self.check(plan, apart, False)
        for place in range(4):
            row = apart[2][:place] + (3,) + apart[2][place + 1:]
            self.check(plan, (*apart[:2], row, apart[3]), True)

    def test_one_flag_for_all(self):
        for plan in PLANS[::3]:
            if len(plan[1]) > 1:
                self.check(plan, ((0,),) * len(plan[1]), fewest_turning(plan) > 1)

    def test_where_flags_are_clean_no_walk_clashes(self):
        rng = random.Random(4)
        clean = 0
        for plan in PLANS[::2]:
            flags = random_rows(rng, plan, (2, 3, 4, 6, 8), 200)
            if turning_clash(plan, flags) is None:
                clean += 1
                for many in (20, 60):
                    _, standing = endless_samples.random_walk(rng, plan, many)
                    self.assertIs(clashes_at(plan, flags, standing), False)
        self.assertGreater(clean, 5)

    def test_where_a_walk_clashes_flags_are_not_clean(self):
        rng = random.Random(5)
        clashes = 0
        for plan in PLANS[::2]:
            flags = random_rows(rng, plan, (1, 2, 5, 7, 8), 40)
            for many in (10, 20, 40):
                _, standing = endless_samples.random_walk(rng, plan, many)
                if clashes_at(plan, flags, standing):
                    clashes += 1
                    self.check(plan, flags, True)
        self.assertGreater(clashes, 10)

    def test_many_waits(self):
        rng = random.Random(6)
        for plan in [plan for plan in PLANS if len(plan[1]) >= 8]:
            for lengths, most in (((8,), 500), ((5, 7, 8), 60), ((8, 4), 10)):
                flags = random_rows(rng, plan, lengths, most)
                found = self.call(turning_clash, plan, flags)
                if found is not None:
                    self.check_clash(plan, flags, found)

    def test_without_waits(self):
        for plan in NO_WAITS:
            self.assertIsNone(self.call(turning_clash, plan, ()))


class FewestTest(TurningTest):
    def test_the_greatest_load(self):
        for plan in PLANS:
            fewest = self.call(fewest_turning, plan)
            self.assertTrue(samples.same_kind(fewest, greatest_load(plan)))
            self.assertEqual(fewest, load(plan, fullest_standing(plan)))

    def test_clean_flags_with_just_the_integers_below(self):
        for plan in PLANS:
            flags = self.call(turning_flags, plan)
            self.assertIs(endless_samples.is_turning(plan, flags), True)
            self.assertIsNone(turning_clash(plan, flags))
            self.assertEqual({flag for row in flags for flag in row}, set(range(fewest_turning(plan))))

    def test_they_are_clean_by_what_the_links_mean(self):
        for plan in SMALL:
            flags = turning_flags(plan)
            if flags and lcm(*map(len, flags)) <= 30:
                self.assertIs(endless_samples.has_clash(plan, flags), False)

    def test_they_are_clean_along_walks(self):
        for plan, walk, _ in endless_samples.walks(7, PLANS[::2], (70,)):
            flags = turning_flags(plan)
            standing = (0,) * len(plan[0])
            for queue in walk:
                standing = endless_samples.one_more(standing, queue)
                self.assertIs(clashes_at(plan, flags, standing), False)

    def test_twelve_waits(self):
        most = [plan for plan in PLANS if len(plan[1]) == 12]
        self.assertGreater(len(most), 3)
        for plan in most:
            self.assertEqual(len(turning_flags(plan)), 12)

    def test_without_waits(self):
        for plan in NO_WAITS:
            self.assertTrue(samples.same_kind(self.call(fewest_turning, plan), 0))
            self.assertEqual(self.call(turning_flags, plan), ())

    def test_the_least_plan_needs_no_more(self):
        wait = ((0, 0), (1, 0), 1)
        more = (PAIR[0], tuple(sorted(PAIR[1] + (wait,))))
        self.assertEqual(fewest_turning(PAIR), 2)
        self.assertGreater(fewest_turning(more), 2)


if __name__ == "__main__":
    unittest.main()
