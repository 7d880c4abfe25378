import random
import unittest
from fractions import Fraction

import endless_samples
import samples
from endless_checks import EndlessTest
from flagplans.pace import critical_circle, is_timetable, pace, timetable
from flagplans.wrongs import InvalidDurations, InvalidFraction

PLANS = endless_samples.HELD_PLANS + endless_samples.NOT_HELD_PLANS
SMALL = [plan for plan in PLANS if sum(plan[0]) <= 5 and len(plan[1]) <= 5]
PAIR = endless_samples.PAIR
HUGE = samples.HUGE


def random_durations(rng, plan, numbers):
    return tuple(tuple(rng.choice(numbers) for _ in range(size)) for size in plan[0])


def time_of(durations, circle):
    return sum(durations[link[0][0]][link[0][1]] for link in circle)


def fraction_of(durations, circle):
    return Fraction(time_of(durations, circle), sum(link[2] for link in circle))


def are_durations(plan, value):
    """Whether a value is durations of the plan (point 25)."""
    return endless_samples.has_an_integer_for_each_job(plan, value) and all(
        0 <= duration <= 99 for row in value for duration in row)


def is_right(plan, durations, fraction, table):
    """Whether a timetable is right, link by link (point 25)."""
    p, q = fraction
    for (queue, place), (other, behind), distance in endless_samples.all_links(plan):
        if table[other][behind] + p * distance < table[queue][place] + q * durations[queue][place]:
            return False
    return True


def with_entry(table, queue, place, entry):
    rows = [list(row) for row in table]
    rows[queue][place] = entry
    return tuple(map(tuple, rows))


def cases(seed, plans):
    rng = random.Random(seed)
    for plan in plans:
        for numbers in (range(100), (0, 99), (0, 1, 2), (0,)):
            yield plan, random_durations(rng, plan, numbers)


class PaceTest(EndlessTest):
    def test_against_all_circles_of_small_plans(self):
        for plan, durations in cases(1, SMALL):
            circles = endless_samples.circles_of(plan)
            greatest = max(fraction_of(durations, circle) for circle in circles)
            expected = (greatest.numerator, greatest.denominator)
            self.assertTrue(samples.same_kind(self.call(pace, plan, durations), expected))
            self.assertIn(self.call(critical_circle, plan, durations), circles)

    def test_a_circle_and_a_timetable_show_the_pace(self):
        for plan, durations in cases(2, PLANS):
            found = pace(plan, durations)
            self.assertEqual([type(found), type(found[0]), type(found[1])], [tuple, int, int])
            circle = self.call(critical_circle, plan, durations)
            self.assertTrue(endless_samples.is_circle(plan, circle))
            fraction = fraction_of(durations, circle)
            self.assertEqual(found, (fraction.numerator, fraction.denominator))
            table = self.call(timetable, plan, durations)
            self.assertTrue(endless_samples.has_an_integer_for_each_job(plan, table))
            self.assertTrue(is_right(plan, durations, found, table))
            self.assertIs(is_timetable(plan, durations, found, table), True)

    def test_turns_can_begin_where_the_timetable_says(self):
        for plan, durations in cases(3, SMALL[::4]):
            p, q = pace(plan, durations)
            table = timetable(plan, durations)
            begin = {
                ((queue, place), number): Fraction(table[queue][place] + p * number, q)
                for queue, size in enumerate(plan[0]) for place in range(size) for number in range(6)}
            for (job, number), moment in begin.items():
                for first, second, distance in endless_samples.all_links(plan):
                    if second == job and number >= distance:
                        ended = begin[first, number - distance] + durations[first[0]][first[1]]
                        self.assertLessEqual(ended, moment)

    def test_no_durations_at_all(self):
        for plan in PLANS:
            durations = tuple((0,) * size for size in plan[0])
            self.assertEqual(self.call(pace, plan, durations), (0, 1))
            self.assertIs(is_timetable(plan, durations, (0, 1), timetable(plan, durations)), True)
            circle = critical_circle(plan, durations)
            self.assertTrue(endless_samples.is_circle(plan, circle))

    def test_without_a_common_divisor(self):
        plan = ((1, 1), (((0, 0), (1, 0), 1), ((1, 0), (0, 0), 1)))
        for first, second, expected in ((3, 5, (5, 1)), (4, 4, (4, 1)), (5, 0, (5, 1)), (0, 0, (0, 1))):
            self.assertEqual(pace(plan, ((first,), (second,))), expected)
        plan = ((2, 2), (((0, 0), (1, 0), 0), ((0, 1), (1, 1), 0), ((1, 0), (0, 1), 0), ((1, 1), (0, 0), 3)))
        self.assertEqual(pace(plan, ((10, 9), (8, 7))), (27, 1))
        plan = ((1, 1, 1), (((0, 0), (1, 0), 0), ((1, 0), (2, 0), 0), ((2, 0), (0, 0), 2)))
        self.assertEqual(pace(plan, ((3,), (4,), (4,))), (11, 2))
        self.assertEqual(pace(plan, ((3,), (5,), (4,))), (6, 1))
        self.assertEqual(pace(plan, ((99,), (99,), (99,))), (297, 2))

    def test_values_that_are_no_durations(self):
        rng = random.Random(4)
        for plan in SMALL[::10] + [endless_samples.SINGLE]:
            durations = random_durations(rng, plan, range(100))
            odd = samples.ODD_VALUES + samples.variants(durations) + [plan, plan[0], (), durations[1:], list(durations)]
            odd += [tuple(map(list, durations)), durations + ((0,),)]
            for entry in (0, 99, 100, -1, True, False, None, "0", (0,), HUGE):
                odd.append(with_entry(durations, 0, 0, entry))
            for value in odd:
                if not are_durations(plan, value):
                    for function in (pace, critical_circle, timetable):
                        self.check_raises(InvalidDurations, function, plan, value)
                    self.check_raises(InvalidDurations, is_timetable, plan, value, None, None)
                else:
                    pace(plan, value)

    def test_wrong_plans(self):
        for function in (pace, critical_circle, timetable):
            self.check_invalid_endless(function, ((1,), (1,)))
            self.check_stuck(function, ((1,), (1,)))
        self.check_invalid_endless(is_timetable, ((1,), (1,)), (1, 1), ((0,), (1,)))
        self.check_stuck(is_timetable, ((1,), (1,)), (1, 1), ((0,), (1,)))


class IsTimetableTest(EndlessTest):
    def check(self, plan, durations, fraction, value):
        expected = endless_samples.has_an_integer_for_each_job(plan, value) and is_right(
            plan, durations, fraction, value)
        self.assertIs(is_timetable(plan, durations, fraction, value), expected)

    def test_one_entry_changed(self):
        rng = random.Random(5)
        for plan, durations in cases(5, PLANS[::4]):
            found = pace(plan, durations)
            table = timetable(plan, durations)
            for queue, size in enumerate(plan[0]):
                for place in range(size):
                    entry = table[queue][place]
                    for other in (entry + 1, entry - 1, entry + rng.randrange(500), 0, HUGE, -HUGE, True, None, "0"):
                        self.check(plan, durations, found, with_entry(table, queue, place, other))

    def test_the_same_timetable_later_and_earlier(self):
        for plan, durations in cases(6, PLANS[::8]):
            found = pace(plan, durations)
            table = timetable(plan, durations)
            for more in (1, -1, 10 ** 9, HUGE, -HUGE):
                moved = tuple(tuple(entry + more for entry in row) for row in table)
                self.assertIs(self.call(is_timetable, plan, durations, found, moved), True)

    def test_other_forms(self):
        for plan, durations in cases(7, SMALL[::12]):
            table = timetable(plan, durations)
            odd = samples.ODD_VALUES + samples.variants(table) + [list(table), table[1:], table + ((0,),), (), plan]
            for value in odd + [tuple(map(list, table)), tuple((False,) * size for size in plan[0])]:
                self.check(plan, durations, pace(plan, durations), value)

    def test_other_fractions(self):
        for plan, durations in cases(8, PLANS[::6]):
            found = Fraction(*pace(plan, durations))
            table = timetable(plan, durations)
            for other in (found, found + Fraction(1, 1000), found + 1, found * 10 ** 30 + 1, found - Fraction(1, 1000)):
                if other >= 0:
                    p, q = other.numerator, other.denominator
                    for scale in (1, q, q // found.denominator):
                        scaled = tuple(tuple(entry * scale for entry in row) for row in table)
                        self.check(plan, durations, (p, q), scaled)

    def test_a_fraction_below_the_pace_has_no_right_timetable(self):
        rng = random.Random(9)
        for plan, durations in cases(9, SMALL[::3]):
            found = Fraction(*pace(plan, durations))
            if found > 0:
                less = found - min(found, Fraction(1, 10000))
                for _ in range(5):
                    table = tuple(tuple(rng.randrange(-9 ** 6, 9 ** 6) for _ in range(size)) for size in plan[0])
                    self.assertIs(is_timetable(plan, durations, (less.numerator, less.denominator), table), False)

    def test_a_greater_fraction_has_the_timetable_of_longer_durations(self):
        plan, durations = PAIR, ((3,), (5,))
        self.assertIs(is_timetable(plan, durations, (11, 2), ((0,), (6,))), True)
        self.assertIs(is_timetable(plan, durations, (11, 2), ((0,), (5,))), False)
        self.assertIs(is_timetable(plan, durations, (HUGE, 1), ((0,), (3,))), True)
        self.assertIs(is_timetable(plan, durations, (HUGE + 1, HUGE), ((0,), (3 * HUGE,))), False)

    def test_values_that_are_no_fractions(self):
        table = ((0,), (3,))
        odd = [
            (0, 0), (1, 0), (0, 2), (2, 2), (6, 4), (-5, 1), (5, -1), (-1, -1), (True, 1), (1, True), (5, True), [5, 1],
            (5,), (5, 1, 1), (), ("5", 1), (5, None), 5, (HUGE, 2), (2, HUGE), ((5,), 1), (False, 1)]
        for value in odd + [value for value in samples.ODD_VALUES if value != (0, 1)]:
            self.check_raises(InvalidFraction, is_timetable, PAIR, ((3,), (5,)), value, table)
            self.check_raises(InvalidFraction, is_timetable, PAIR, ((3,), (5,)), value, None)
            self.check_raises(InvalidDurations, is_timetable, PAIR, ((3,), (100,)), value, table)
        for value in ((0, 1), (1, 1), (5, 1), (5, 2), (1, HUGE), (HUGE, 1), (HUGE, HUGE + 1)):
            self.check(PAIR, ((3,), (5,)), value, table)


if __name__ == "__main__":
    unittest.main()
