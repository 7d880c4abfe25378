import random
import unittest
from fractions import Fraction

import endless_samples
import samples
from checks import RIGHT, first_fault, wrong
from endless_checks import EndlessTest
from flagplans.endless import zero_circle
from flagplans.gaps import gap_heights, gap_row
from flagplans.opened import bound_of, full_standing
from flagplans.pace import critical_circle, timetable
from flagplans.records import judge
from flagplans.thin import is_needed_wait, parting_standing
from flagplans.tours import fullest_standing, shortest_tour
from flagplans.turning import turning_clash, turning_flags
from flagplans.wrongs import InvalidEndless, NotARecord, Stuck

HUGE = samples.HUGE
LENGTHS = {
    "stuck": 3, "gap": 6, "apart": 5, "bound": 5, "needed": 4, "needless": 4, "parted": 4, "load": 4, "turning": 4,
    "clash": 4, "pace": 5,
}
PAIR = endless_samples.PAIR
HELD = endless_samples.HELD_PLANS
PLANS = HELD + endless_samples.NOT_HELD_PLANS
WITH_WAITS = [plan for plan in PLANS if plan[1]]
SMALL = [plan for plan in WITH_WAITS if sum(plan[0]) <= 5 and len(plan[1]) <= 4]
SMALL_HELD = [plan for plan in SMALL if plan in HELD]


def distance_of(row):
    return sum(link[2] for link in row)


def difference(heights, first, second):
    return heights[second[0]][second[1]] - heights[first[0]][first[1]]


def rounds_of(plan, standing, job):
    """How many of the turns 0, 1, 2, .. below the standing are turns of the job: great numbers cannot be looked at."""
    queue, place = job
    return max(0, -((place - standing[queue]) // plan[0][queue]))


def is_in_form(plan, value):
    return type(value) is tuple and len(value) == len(plan[0]) and all(
        type(many) is int and many >= 0 for many in value)


def allows(plan, standing):
    return all(
        rounds_of(plan, standing, second) - rounds_of(plan, standing, first) <= distance
        for first, second, distance in plan[1])


def is_standing(plan, value):
    return is_in_form(plan, value) and allows(plan, value)


def span_of(plan, standing, wait):
    """The first open round, and the one behind the last open round of a wait."""
    first, second, distance = wait
    return max(0, rounds_of(plan, standing, second) - distance), rounds_of(plan, standing, first)


def many_open(plan, standing, wait):
    begin, end = span_of(plan, standing, wait)
    return end - begin


def load_of(plan, standing):
    return sum(many_open(plan, standing, wait) for wait in plan[1])


def clash_there(plan, flags, standing):
    used = []
    for row, wait in zip(flags, plan[1]):
        begin, end = span_of(plan, standing, wait)
        if end - begin > len(row):
            return True
        used += [row[(begin + more) % len(row)] for more in range(end - begin)]
    return len(set(used)) < len(used)


def are_durations(plan, value):
    return endless_samples.has_an_integer_for_each_job(plan, value) and all(
        0 <= duration <= 99 for row in value for duration in row)


def is_right_table(plan, durations, circle, table):
    if not endless_samples.has_an_integer_for_each_job(plan, table):
        return False
    fraction = Fraction(sum(durations[link[0][0]][link[0][1]] for link in circle), distance_of(circle))
    return all(
        difference(table, first, second) + fraction.numerator * distance
        >= fraction.denominator * durations[first[0]][first[1]]
        for first, second, distance in endless_samples.all_links(plan))


def stuck(plan, circle):
    return [lambda: endless_samples.is_circle(plan, circle), lambda: distance_of(circle) == 0]


def has_jobs(plan, *values):
    return all(samples.is_one_of(value, samples.all_jobs(plan[0])) for value in values)


def gap_conditions(plan, first, second, row, heights):
    return [
        lambda: has_jobs(plan, first, second),
        lambda: endless_samples.is_row(plan, row, first, second),
        lambda: endless_samples.are_heights(plan, heights),
        lambda: distance_of(row) == difference(heights, first, second)]


def apart(plan, first, second, heights):
    return [
        lambda: has_jobs(plan, first, second),
        lambda: endless_samples.are_heights(plan, heights),
        lambda: difference(heights, first, second) >= 46]


def bound(plan, wait, circle, standing):
    return [
        lambda: samples.is_one_of(wait, plan[1]),
        lambda: endless_samples.is_circle(plan, circle) and circle[0] == wait,
        lambda: is_standing(plan, standing),
        lambda: many_open(plan, standing, wait) == distance_of(circle)]


def needed(plan, wait, standing):
    return [
        lambda: samples.is_one_of(wait, plan[1]),
        lambda: is_in_form(plan, standing) and not allows(plan, standing) and allows(
            endless_samples.without(plan, wait), standing)]


def needless(plan, wait, row):
    return [
        lambda: samples.is_one_of(wait, plan[1]),
        lambda: endless_samples.is_row(plan, row, wait[0], wait[1]) and len(row) > 1,
        lambda: distance_of(row) <= wait[2]]


def parted(plan, other, standing):
    same_sizes = endless_samples.is_endless(other) and other[0] == plan[0]
    return [
        lambda: same_sizes and not endless_samples.has_zero_circle(other),
        lambda: is_in_form(plan, standing) and allows(plan, standing) != allows(other, standing)]


def load(plan, tour, standing):
    table = endless_samples.gap_table(plan)
    return [
        lambda: endless_samples.is_tour(plan, table, tour),
        lambda: is_standing(plan, standing),
        lambda: load_of(plan, standing) == endless_samples.length_of(plan, table, tour)]


def turning(plan, flags, standing):
    return [
        lambda: endless_samples.is_turning(plan, flags),
        lambda: not flags or not endless_samples.has_clash(plan, flags),
        lambda: is_standing(plan, standing),
        lambda: load_of(plan, standing) == len({flag for row in flags for flag in row})]


def clash(plan, flags, standing):
    return [
        lambda: endless_samples.is_turning(plan, flags),
        lambda: is_standing(plan, standing),
        lambda: clash_there(plan, flags, standing)]


def pace(plan, durations, circle, table):
    return [
        lambda: are_durations(plan, durations),
        lambda: endless_samples.is_circle(plan, circle),
        lambda: is_right_table(plan, durations, circle, table)]


CONDITIONS = {
    "stuck": stuck, "gap": gap_conditions, "apart": apart, "bound": bound, "needed": needed, "needless": needless,
    "parted": parted, "load": load, "turning": turning, "clash": clash, "pace": pace,
}


def by_point_29(record):
    return first_fault(*CONDITIONS[record[0]](*record[1:]))


def longer(standing, many):
    """The standing that comes when all queues have done so many turns more."""
    return tuple(one + many for one in standing)


class JudgeTest(EndlessTest):
    def check(self, *record):
        """The judge says of a record just what point 29 says. Returns what it says."""
        result = judge(record)
        self.assertTrue(samples.same_kind(result, by_point_29(record)), (record, result))
        return result

    def check_right(self, *record):
        self.assertTrue(samples.same_kind(self.call(judge, record), RIGHT), record)
        self.assertEqual(by_point_29(record), RIGHT)

    def check_changed(self, *record, most=None):
        """Each entry behind the plan is changed at one place, and then some entries together."""
        for k in range(2, len(record)):
            for value in samples.variants(record[k])[:most] + [None, [], (), record[1]]:
                self.check(*record[:k], value, *record[k + 1:])
        for k in range(2, len(record)):
            for value in (None, (), [], 7, True, ((0,),)):
                self.check(*record[:k], *[value] * (len(record) - k))
                self.check(*record[:2], *[value] * (k - 1), *record[k + 1:])


class StuckTest(JudgeTest):
    def test_stuck_plans(self):
        for plan in endless_samples.STUCK_PLANS:
            circle = zero_circle(plan)
            self.check_right("stuck", plan, circle)
            self.check_changed("stuck", plan, circle)
            self.check_right("stuck", plan, circle[1:] + circle[:1])

    def test_sound_plans(self):
        for plan in SMALL[::4]:
            for circle in endless_samples.circles_of(plan):
                self.assertEqual(self.check("stuck", plan, circle), wrong(1))
            self.assertEqual(self.check("stuck", plan, []), wrong(0))


class GapTest(JudgeTest):
    def test_gaps_with_rows_and_heights(self):
        for plan in PLANS[::3]:
            for first in samples.all_jobs(plan[0]):
                for second in samples.all_jobs(plan[0]):
                    row, heights = gap_row(plan, first, second), gap_heights(plan, first, second)
                    if row is None:
                        self.check_right("apart", plan, first, second, heights)
                        self.assertEqual(self.check("gap", plan, first, second, [], heights), wrong(1))
                    else:
                        self.check_right("gap", plan, first, second, row, heights)
                        self.assertEqual(self.check("apart", plan, first, second, heights), wrong(2))

    def test_changed_records(self):
        for plan in SMALL[::8]:
            jobs = samples.all_jobs(plan[0])
            for first, second in ((jobs[0], jobs[-1]), (jobs[-1], jobs[0]), (jobs[0], jobs[0])):
                row, heights = gap_row(plan, first, second), gap_heights(plan, first, second)
                self.check_changed("gap", plan, first, second, row, heights)
                self.check_changed("apart", plan, first, second, heights)

    def test_rows_that_go_farther(self):
        plan = endless_samples.LINE
        heights = gap_heights(plan, (0, 0), (1, 0))
        row = gap_row(plan, (0, 0), (1, 0))
        round_row = row + [((1, 0), (1, 0), 1)]
        self.assertEqual(self.check("gap", plan, (0, 0), (1, 0), round_row, heights), wrong(3))
        self.assertEqual(self.check("gap", plan, (0, 0), (1, 0), round_row * 2, heights), wrong(1))
        self.assertEqual(self.check("gap", plan, (0, 0), (0, 0), [], heights), RIGHT)

    def test_heights_46_higher(self):
        plan = endless_samples.APART
        for more in (-100, 0, 45, 46, 47, HUGE):
            heights = ((0, 0), (more, more, more), (0,))
            expected = wrong(1) if more > 0 else wrong(2)
            self.assertEqual(self.check("apart", plan, (0, 0), (1, 1), heights), expected)
            heights = ((more, more), (0, 0, 0), (0,))
            expected = wrong(1) if more < 0 else RIGHT if more >= 46 else wrong(2)
            self.assertEqual(self.check("apart", plan, (1, 1), (0, 0), heights), expected)


class BoundTest(JudgeTest):
    def test_bounds_with_full_standings(self):
        for plan in PLANS:
            for wait in plan[1]:
                if bound_of(plan, wait) is not None:
                    circle = [wait] + gap_row(plan, wait[1], wait[0])
                    standing = full_standing(plan, wait)
                    self.check_right("bound", plan, wait, circle, standing)
                    turned = circle[1:] + circle[:1]
                    if turned[0] != wait:
                        self.assertEqual(self.check("bound", plan, wait, turned, standing), wrong(1))
                    self.assertEqual(self.check("bound", plan, wait, circle, (0,) * len(plan[0])), wrong(3))

    def test_changed_records(self):
        for plan in SMALL_HELD[::6]:
            wait = plan[1][-1]
            self.check_changed(
                "bound", plan, wait, [wait] + gap_row(plan, wait[1], wait[0]), full_standing(plan, wait))

    def test_great_standings(self):
        wait, back = PAIR[1]
        for many in (10 ** 6, HUGE):
            self.check_right("bound", PAIR, wait, [wait, back], (many + 2, many))
            self.assertEqual(self.check("bound", PAIR, wait, [wait, back], (many + 1, many)), wrong(3))
            self.assertEqual(self.check("bound", PAIR, wait, [wait, back], (many + 3, many)), wrong(2))
            self.check_right("bound", PAIR, back, [back, wait], (many, many))
            self.assertEqual(self.check("bound", PAIR, back, [back, wait], (many, many + 1)), wrong(2))


class NeededTest(JudgeTest):
    def test_needed_and_needless_waits(self):
        for plan in PLANS:
            for wait in plan[1]:
                less = endless_samples.without(plan, wait)
                if is_needed_wait(plan, wait):
                    standing = parting_standing(plan, less)
                    self.check_right("needed", plan, wait, standing)
                    self.assertEqual(self.check("needed", plan, wait, (0,) * len(plan[0])), wrong(1))
                else:
                    row = gap_row(less, wait[0], wait[1])
                    if len(row) == 1:
                        row = self.with_way_round(plan, row[0])
                    self.check_right("needless", plan, wait, row)

    def with_way_round(self, plan, link):
        """A link, and behind it the way round the queue of the job to which it leads."""
        row = [link]
        for _ in range(plan[0][link[1][0]]):
            row += [other for other in endless_samples.queue_links(plan[0]) if other[0] == row[-1][1]]
        return row

    def test_changed_records(self):
        for plan in SMALL[::6]:
            for wait in plan[1][:2]:
                row = gap_row(plan, wait[0], wait[1])
                self.check_changed("needless", plan, wait, row)
                self.check_changed("needed", plan, wait, (3,) * len(plan[0]))
                ahead = tuple(size * (queue == wait[1][0]) for queue, size in enumerate(plan[0]))
                self.check_changed("needed", plan, wait, ahead)

    def test_rows_of_one_link_and_farther_ones(self):
        near, far, back = ((0, 0), (1, 0), 0), ((0, 0), (1, 0), 2), ((1, 0), (0, 0), 1)
        plan = ((1, 1), (near, far, back))
        round_one = ((1, 0), (1, 0), 1)
        for row, expected in (
                ([near], wrong(1)), ([far], wrong(1)), ([], wrong(1)), ([near, round_one], RIGHT),
                ([near, round_one, round_one], RIGHT), ([near] + [round_one] * 3, wrong(2)),
                ([near, back, near], RIGHT), ([near, back, near, back, near], RIGHT),
                ([near, back, far], wrong(2)), ([near, back], wrong(1)), ((near, round_one), wrong(1))):
            self.assertEqual(self.check("needless", plan, far, row), expected)
        self.assertEqual(self.check("needless", plan, near, [near, round_one]), wrong(2))

    def test_great_standings(self):
        wait, back = PAIR[1]
        for many in (10 ** 6, HUGE):
            self.assertEqual(self.check("needed", PAIR, wait, (many, many + 1)), RIGHT)
            self.assertEqual(self.check("needed", PAIR, wait, (many, many)), wrong(1))
            self.assertEqual(self.check("needed", PAIR, wait, (many + 3, many)), wrong(1))
            self.assertEqual(self.check("needed", PAIR, back, (many + 3, many)), RIGHT)
            self.assertEqual(self.check("needed", PAIR, back, (many + 3, -many)), wrong(1))


class PartedTest(JudgeTest):
    def test_parted_plans(self):
        rng = random.Random(1)
        for plan in PLANS:
            other = endless_samples.random_sound(rng, plan[0], 3)
            standing = parting_standing(plan, other)
            if standing is not None:
                self.check_right("parted", plan, other, standing)
                self.check_right("parted", other, plan, standing)
                self.assertEqual(self.check("parted", plan, plan, standing), wrong(1))
            self.assertEqual(self.check("parted", plan, other, (0,) * len(plan[0])), wrong(1))

    def test_changed_records(self):
        rng = random.Random(2)
        for plan in SMALL[::7]:
            other = endless_samples.random_sound(rng, plan[0], 2)
            standing = parting_standing(plan, other)
            if standing is not None:
                self.check_changed("parted", plan, other, standing)
                for value in (standing + (0,), standing[1:], list(standing), longer(standing, HUGE)):
                    self.check("parted", plan, other, value)

    def test_values_that_are_no_other_plan(self):
        for value in endless_samples.NO_PLANS + samples.ODD_VALUES + [((1, 1, 1), ()), ((1,), ()), ((2, 1), ())]:
            self.assertEqual(self.check("parted", PAIR, value, (0, 1)), wrong(0))
        for plan in endless_samples.STUCK_PLANS:
            self.assertEqual(self.check("parted", (plan[0], ()), plan, (1,) * len(plan[0])), wrong(0))
        self.check_right("parted", PAIR, ((1, 1), ()), (HUGE, HUGE + 1))


class LoadTest(JudgeTest):
    def test_greatest_loads_with_shortest_tours(self):
        for plan in HELD:
            tour, standing = shortest_tour(plan), fullest_standing(plan)
            self.check_right("load", plan, tour, standing)
            self.assertEqual(judge(("turning", plan, turning_flags(plan), standing)), RIGHT)
            if plan[1]:
                self.assertEqual(self.check("load", plan, tour, (0,) * len(plan[0])), wrong(2))
                self.assertEqual(judge(("turning", plan, turning_flags(plan), (0,) * len(plan[0]))), wrong(3))

    def test_longer_tours_and_great_standings(self):
        self.assertEqual(self.check("load", PAIR, (0, 1), (2, 0)), wrong(2))
        self.assertEqual(self.check("load", PAIR, (0, 1), (3, 0)), wrong(1))
        for many in (10 ** 6, HUGE):
            self.check_right("load", PAIR, (1, 0), (many + 2, many))
            self.check_right("load", PAIR, (1, 0), (many + 1, many))
            self.assertEqual(self.check("load", PAIR, (1, 0), (many, many + 1)), wrong(1))

    def test_changed_records(self):
        for plan in SMALL_HELD[::5]:
            self.check_changed("load", plan, shortest_tour(plan), fullest_standing(plan))

    def test_plans_that_are_not_held(self):
        for plan in endless_samples.NOT_HELD_PLANS:
            numbers = tuple(range(len(plan[1])))
            for tour in (numbers, numbers[::-1], ()):
                self.assertEqual(self.check("load", plan, tour, (0,) * len(plan[0])), wrong(0))


class TurningTest(JudgeTest):
    def test_fewest_flags_with_fullest_standings(self):
        for plan in [plan for plan in SMALL_HELD if max(map(len, turning_flags(plan))) <= 4]:
            self.check_right("turning", plan, turning_flags(plan), fullest_standing(plan))

    def test_changed_records(self):
        for plan in [plan for plan in SMALL_HELD if max(map(len, turning_flags(plan))) <= 4][::4]:
            self.check_changed("turning", plan, turning_flags(plan), fullest_standing(plan), most=60)
            flags = ((0,),) * len(plan[1])
            found = turning_clash(plan, flags)
            if found is not None:
                self.check_right("clash", plan, flags, found[0])
                self.check_changed("clash", plan, flags, found[0])

    def test_drawn_flags(self):
        rng = random.Random(3)
        for plan in SMALL[::2]:
            for most in (3, 8, 40):
                flags = tuple(tuple(rng.randrange(most) for _ in range(rng.randint(1, 3))) for _ in plan[1])
                for many in (5, 20):
                    _, standing = endless_samples.random_walk(rng, plan, many)
                    self.check("clash", plan, flags, standing)
                    self.check("turning", plan, flags, standing)
                    self.check("clash", plan, flags, longer(standing, 3))

    def test_more_flags_than_needed(self):
        for plan in SMALL_HELD[::3]:
            flags = turning_flags(plan)
            most = 1 + max(flag for row in flags for flag in row)
            more = tuple(row + row[:-1] + (most,) if k == 0 else row + row for k, row in enumerate(flags))
            self.assertEqual(judge(("turning", plan, more, fullest_standing(plan))), wrong(3))

    def test_plans_that_are_not_held(self):
        for plan in endless_samples.NOT_HELD_PLANS[::3]:
            flags = tuple((10 * k, 10 * k + 1) for k in range(len(plan[1])))
            self.assertEqual(judge(("turning", plan, flags, (0,) * len(plan[0]))), wrong(1))
            long_flags = tuple(tuple(40 * k + place for place in range(40)) for k in range(len(plan[1])))
            self.assertEqual(judge(("turning", plan, long_flags, (0,) * len(plan[0]))), wrong(1))
            self.assertEqual(self.check("clash", plan, flags, (0,) * len(plan[0])), wrong(2))
            wait = endless_samples.first_not_held(plan)
            others = [queue for queue in range(len(plan[0])) if queue != wait[1][0]]
            _, standing = endless_samples.random_walk(random.Random(4), plan, 60, others)
            self.check("clash", plan, flags, standing)

    def test_great_standings_and_long_flags(self):
        plan = ((1, 1), (((0, 0), (1, 0), 0), ((1, 0), (0, 0), 3)))
        rows = (tuple(range(250)) * 2, tuple(range(250, 500)))
        for many in (10 ** 6, HUGE):
            self.check_right("turning", plan, (tuple(range(3)), (0, 1, 2)), (many + 3, many))
            self.assertEqual(judge(("turning", plan, rows, (many + 3, many))), wrong(3))
            self.assertEqual(judge(("turning", plan, rows, (many + 4, many))), wrong(2))
            self.assertEqual(self.check("clash", plan, rows, (many + 3, many)), wrong(2))
            self.assertEqual(self.check("clash", plan, ((0, 1), (2, 3)), (many + 3, many)), RIGHT)
            self.assertEqual(self.check("clash", plan, ((0, 1), (2, 3)), (many + 2, many)), wrong(2))
            self.assertEqual(self.check("clash", plan, ((0, 1), (2, 3)), (many + 4, many)), wrong(1))

    def test_one_place_in_long_flags(self):
        plan = ((1, 1), (((0, 0), (1, 0), 0), ((1, 0), (0, 0), 3)))
        first, second = list(range(250)) * 2, list(range(250, 499)) * 2
        self.assertEqual(judge(("turning", plan, (tuple(first), tuple(second)), (0, 0))), wrong(3))
        for place in (0, 200, 499):
            row = list(first)
            row[place] = row[(place + 2) % 500]
            self.assertEqual(judge(("turning", plan, (tuple(row), tuple(second)), (0, 0))), wrong(1))
            row[place] = row[(place + 3) % 500]
            self.assertEqual(judge(("turning", plan, (tuple(row), tuple(second)), (0, 0))), wrong(3))

    def test_waits_that_are_never_open_together(self):
        plan = ((1, 1), (((0, 0), (1, 0), 0), ((1, 0), (0, 0), 1)))
        self.assertEqual(judge(("turning", plan, ((0,) * 500, (0,) * 499), (1, 0))), RIGHT)

    def test_places_of_long_flags_that_come_together(self):
        # The first two waits are open together in the same round only.
        plan = ((2, 2), (((0, 0), (1, 0), 0), ((0, 1), (1, 1), 0), ((1, 1), (0, 0), 1)))
        for place in (0, 7, 499):
            for other in (0, 2, 9, 100, 497):
                for length in (498, 499, 500):
                    row = [place_in_row % 100 for place_in_row in range(500)]
                    row[place] = 400
                    late = [100 + place_in_row % 100 for place_in_row in range(length)]
                    late[other] = 400
                    meet = {498: (place - other) % 2 == 0, 499: True, 500: place == other}[length]
                    result = judge(("turning", plan, (tuple(row), tuple(late), (0,)), (2, 0)))
                    self.assertEqual(result, wrong(1) if meet else wrong(3))
        even = tuple(1 + (place % 2) for place in range(500))
        odd = tuple(2 - (place % 2) for place in range(498))
        self.assertEqual(judge(("turning", plan, (even, odd, (0,)), (2, 0))), wrong(3))
        self.assertEqual(judge(("turning", plan, (even, odd[1:], (0,)), (2, 0))), wrong(1))
        self.assertEqual(judge(("turning", plan, (even, odd[1:] + odd[1:2], (0,)), (2, 0))), wrong(1))
        self.assertEqual(judge(("turning", plan, (even, (3,) * 499, (0,)), (2, 0))), wrong(3))


class PaceTest(JudgeTest):
    def test_paces(self):
        rng = random.Random(5)
        for plan in PLANS:
            for numbers in (range(100), (0, 99), (0,)):
                durations = tuple(tuple(rng.choice(numbers) for _ in range(size)) for size in plan[0])
                circle, table = critical_circle(plan, durations), timetable(plan, durations)
                self.check_right("pace", plan, durations, circle, table)

    def test_all_circles(self):
        rng = random.Random(6)
        for plan in SMALL[::4]:
            durations = tuple(tuple(rng.randrange(100) for _ in range(size)) for size in plan[0])
            table = timetable(plan, durations)
            for circle in endless_samples.circles_of(plan):
                self.check("pace", plan, durations, circle, table)

    def test_changed_records(self):
        rng = random.Random(7)
        for plan in SMALL[::9]:
            durations = tuple(tuple(rng.randrange(100) for _ in range(size)) for size in plan[0])
            self.check_changed("pace", plan, durations, critical_circle(plan, durations), timetable(plan, durations))

    def test_a_fraction_with_a_common_divisor(self):
        # The circle has the time 8 and the distance 2, which is the fraction (4, 1).
        plan = ((1, 1), (((0, 0), (1, 0), 0), ((1, 0), (0, 0), 2)))
        circle = [((0, 0), (1, 0), 0), ((1, 0), (0, 0), 2)]
        self.assertEqual(self.check("pace", plan, ((4,), (4,)), circle, ((0,), (4,))), RIGHT)
        self.assertEqual(self.check("pace", plan, ((4,), (4,)), circle, ((0,), (8,))), wrong(2))


class FormsTest(JudgeTest):
    def test_any_value_for_the_other_entries(self):
        for plan in (PAIR, endless_samples.LINE, endless_samples.NOT_HELD, endless_samples.SINGLE):
            for value in samples.ODD_VALUES + [(), plan, plan[0], plan[1], (0, 1), ((0,), (1,))]:
                for form, length in LENGTHS.items():
                    record = (form, plan) + (value,) * (length - 2)
                    self.assertTrue(samples.same_kind(self.call(judge, record), by_point_29(record)), record)

    def test_gaps_of_any_values(self):
        for value in samples.ODD_VALUES:
            for k in range(4):
                rest = [(0, 0), (1, 0), [((0, 0), (1, 0), 0)], ((0,), (0,))]
                rest[k] = value
                self.check("gap", PAIR, *rest)

    def test_values_that_are_no_records(self):
        for form, length in LENGTHS.items():
            for many in range(8):
                if many != length - 1:
                    self.check_raises(NotARecord, judge, (form,) + (PAIR,) * many)
                    self.check_raises(NotARecord, judge, (form,) + (None,) * many)
            for first in (form.upper(), form + " ", "", None, 0, True, (form,), [form], [], HUGE, PAIR):
                self.check_raises(NotARecord, judge, (first, PAIR) + (None,) * (length - 2))
                self.check_raises(NotARecord, judge, (first,))
            self.check_raises(NotARecord, judge, [form, PAIR] + [None] * (length - 2))
            self.check_raises(NotARecord, judge, form)
        for value in samples.ODD_VALUES + endless_samples.NO_PLANS + [(), RIGHT, wrong(0), PAIR]:
            self.check_raises(NotARecord, judge, value)

    def test_then_values_that_are_no_plans(self):
        for value in samples.ODD_VALUES + endless_samples.NO_PLANS:
            for form, length in LENGTHS.items():
                self.check_raises(InvalidEndless, judge, (form, value) + ((),) * (length - 2))
                self.check_raises(InvalidEndless, judge, (form,) + (value,) * (length - 1))

    def test_then_plans_that_are_not_sound(self):
        for plan in endless_samples.STUCK_PLANS:
            for form, length in LENGTHS.items():
                if form != "stuck":
                    circle = self.check_raises(Stuck, judge, (form, plan) + (None,) * (length - 2)).circle
                    self.assertTrue(endless_samples.is_circle(plan, circle))
                    self.assertEqual(distance_of(circle), 0)


if __name__ == "__main__":
    unittest.main()
