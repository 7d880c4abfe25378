import unittest

import endless_samples
import samples
from endless_checks import EndlessTest
from flagplans.errors import InvalidNumber, TooMany
from flagplans.fewest import fewest_flags
from flagplans.least import least_waits
from flagplans.order import is_sound
from flagplans.plans import is_plan
from flagplans.rounds import first_rounds
from flagplans.runs import count_moments, is_moment
from flagplans.thin import least_endless
from flagplans.turning import fewest_turning

PLANS = endless_samples.HELD_PLANS + endless_samples.NOT_HELD_PLANS + endless_samples.SOUND_PLANS[:60]
PAIR = endless_samples.PAIR


def rounds_by_point_26(plan, number):
    """The plan whose jobs are the turns of the first rounds, each turn the next one of its queue."""
    places = {}
    for queue, size in enumerate(plan[0]):
        for turn_round in range(number):
            for place in range(size):
                many = sum(1 for (job, _) in places if job[0] == queue)
                places[(queue, place), turn_round] = (queue, many)
    waits = [
        (places[first, turn_round], places[second, turn_round + distance])
        for first, second, distance in plan[1] for turn_round in range(number)
        if (second, turn_round + distance) in places]
    return tuple(size * number for size in plan[0]), tuple(sorted(waits))


def fitting(plans):
    """Each plan with all numbers of rounds, from 1 to 6, that are not too many, and with what they make."""
    for plan in plans:
        for number in range(1, 7):
            made = rounds_by_point_26(plan, number)
            if max(made[0]) <= 6 and len(made[1]) <= 24:
                yield plan, number, made


class FirstRoundsTest(EndlessTest):
    def test_all_numbers(self):
        many = 0
        for plan in PLANS:
            for number in range(1, 7):
                made = rounds_by_point_26(plan, number)
                if max(made[0]) > 6 or len(made[1]) > 24:
                    self.check_raises(TooMany, first_rounds, plan, number)
                else:
                    self.assertTrue(samples.same_kind(self.call(first_rounds, plan, number), made))
                    many += number > 2
        self.assertGreater(many, 50)

    def test_six_and_seven_jobs(self):
        for size, number in ((1, 6), (2, 3), (3, 2)):
            for sizes in ((size,), (1, size), (size, size, 1, 1)):
                self.assertEqual(first_rounds((sizes, ()), number)[0], tuple(one * number for one in sizes))
        for size, number in ((2, 4), (3, 3), (4, 2), (4, 6)):
            for sizes in ((size,), (1, size), (size, size, 1, 1)):
                self.check_raises(TooMany, first_rounds, (sizes, ()), number)
        self.assertEqual(first_rounds(((4, 4), ()), 1), ((4, 4), ()))

    def test_24_and_25_waits(self):
        jobs = [(queue, 0) for queue in range(4)]
        near = [(a, b, d) for a in jobs for b in jobs if a < b for d in (0, 1)]
        plan = ((1, 1, 1, 1), tuple(near[:4]))
        self.assertEqual([len(rounds_by_point_26(plan, number)[1]) for number in range(1, 7)], [2, 6, 10, 14, 18, 22])
        for waits, number, many in (
                ([wait for wait in near if wait[2] == 0][:4], 6, 24), (near[:12], 2, 18), (near[:12], 3, 30),
                ([wait for wait in near if wait[2] == 1][:5], 6, 25),
                ([wait for wait in near if wait[2] == 0][:5], 5, 25), ([wait for wait in near if wait[2] == 1], 5, 24)):
            plan = ((1, 1, 1, 1), tuple(waits))
            self.assertEqual(len(rounds_by_point_26(plan, number)[1]), many)
            if many > 24:
                self.check_raises(TooMany, first_rounds, plan, number)
            else:
                self.assertEqual(len(first_rounds(plan, number)[1]), many)

    def test_distances_greater_than_the_number_of_rounds(self):
        plan = ((1, 1), tuple(((0, 0), (1, 0), distance) for distance in range(4)))
        for number in range(1, 7):
            expected = [((0, r), (1, r + d)) for r in range(number) for d in range(4) if r + d < number]
            self.assertEqual(first_rounds(plan, number), ((number, number), tuple(sorted(expected))))
        self.assertEqual(first_rounds(((1, 1), (((0, 0), (1, 0), 3),)), 3), ((3, 3), ()))

    def test_a_sound_plan(self):
        for plan, number, made in fitting(PLANS):
            self.assertIs(is_plan(first_rounds(plan, number)), True)
            self.assertIs(is_sound(first_rounds(plan, number)), True)

    def test_its_possible_moments_are_possible_standings(self):
        for plan, number, made in fitting(PLANS[::4]):
            if sum(made[0]) <= 9:
                found = first_rounds(plan, number)
                possible = 0
                standings = [()]
                for size in made[0]:
                    standings = [(*standing, many) for standing in standings for many in range(size + 1)]
                for standing in standings:
                    right = endless_samples.is_possible(plan, standing)
                    self.assertIs(is_moment(found, standing), right)
                    possible += right
                self.assertEqual(count_moments(found), possible)

    def test_its_least_waits_are_those_of_the_least_plan(self):
        for plan, number, made in fitting(PLANS):
            self.assertEqual(least_waits(first_rounds(plan, number)), first_rounds(least_endless(plan), number)[1])

    def test_its_fewest_flags_are_at_most_the_fewest_turning_flags(self):
        equal = 0
        for plan, number, made in fitting(endless_samples.HELD_PLANS):
            fewest = fewest_flags(first_rounds(plan, number))
            self.assertLessEqual(fewest, fewest_turning(plan))
            equal += fewest == fewest_turning(plan)
        self.assertGreater(equal, 20)

    def test_other_numbers(self):
        for value in samples.ODD_VALUES + [7, 8, (), (1,), [1], "1", samples.HUGE, -6]:
            if not samples.is_one_of(value, [1, 2, 3, 4, 5, 6]):
                self.check_raises(InvalidNumber, first_rounds, PAIR, value)
                self.check_raises(InvalidNumber, first_rounds, ((4, 4, 4, 4), ()), value)

    def test_wrong_plans(self):
        self.check_invalid_endless(first_rounds, 2)
        self.check_stuck(first_rounds, 2)


if __name__ == "__main__":
    unittest.main()
