import random
import unittest
from itertools import permutations, product

import endless_samples
import samples
from endless_checks import EndlessTest
from flagplans.tours import fullest_standing, greatest_load, is_tour, shortest_tour, tour_length
from flagplans.wrongs import InvalidTour

PLANS = endless_samples.HELD_PLANS
SMALL = [plan for plan in PLANS if len(plan[1]) <= 5]
SIX = [plan for plan in PLANS if len(plan[1]) == 6]
PAIR = endless_samples.PAIR
NO_WAITS = [plan for plan in PLANS if not plan[1]]


class TourTest(EndlessTest):
    def check(self, plan, table, value):
        expected = endless_samples.is_tour(plan, table, value)
        self.assertIs(is_tour(plan, value), expected, (plan, value))
        if expected:
            self.assertTrue(samples.same_kind(tour_length(plan, value), endless_samples.length_of(plan, table, value)))
        else:
            self.check_raises(InvalidTour, tour_length, plan, value)

    def test_all_orders_and_shortest_tours(self):
        for plan in SMALL + SIX[:3]:
            table = endless_samples.gap_table(plan)
            lengths = []
            for order in permutations(range(len(plan[1]))):
                length = endless_samples.length_of(plan, table, order)
                if len(plan[1]) <= 4:
                    self.check(plan, table, order)
                if length is not None:
                    lengths.append(length)
            self.check(plan, table, tuple(range(len(plan[1]))))
            found = self.call(shortest_tour, plan)
            self.check(plan, table, found)
            self.assertEqual(endless_samples.length_of(plan, table, found), min(lengths))
            self.assertTrue(samples.same_kind(self.call(greatest_load, plan), min(lengths)))

    def test_what_follows_is_at_the_entry_of_the_number(self):
        turned = 0
        for plan in PLANS:
            if len(plan[1]) in (3, 4):
                table = endless_samples.gap_table(plan)
                for order in permutations(range(len(plan[1]))):
                    other = tuple(order.index(number) for number in range(len(order)))
                    if endless_samples.length_of(plan, table, order) != endless_samples.length_of(plan, table, other):
                        turned += 1
                        self.check(plan, table, order)
        self.assertGreater(turned, 20)

    def test_rows_that_are_missing(self):
        plan = endless_samples.TWO_PAIRS
        for order in permutations(range(4)):
            self.assertIs(is_tour(plan, order), max(order[:2]) < 2)
        self.check_raises(InvalidTour, tour_length, plan, (2, 3, 0, 1))

    def test_changed_orders(self):
        rng = random.Random(1)
        for plan in PLANS[::4]:
            table = endless_samples.gap_table(plan)
            order = shortest_tour(plan)
            drawn = tuple(rng.sample(order, len(order)))
            for value in samples.variants(order) + samples.variants(drawn)[::3] + [list(order), order + order[:1]]:
                self.check(plan, table, value)

    def test_any_value(self):
        for plan in SMALL[::6] + NO_WAITS:
            table = endless_samples.gap_table(plan)
            for value in samples.ODD_VALUES + [(), [], (0,), (False,), (True, False), (0, True), (1, 0), (1, 2), plan]:
                self.check(plan, table, value)
                self.call(is_tour, plan, value)

    def test_without_waits(self):
        for plan in NO_WAITS:
            self.assertEqual(self.call(shortest_tour, plan), ())
            self.assertTrue(samples.same_kind(self.call(greatest_load, plan), 0))
            self.assertTrue(samples.same_kind(self.call(tour_length, plan, ()), 0))
            self.assertIs(is_tour(plan, ()), True)
            self.check_possible(plan, self.call(fullest_standing, plan))

    def test_wrong_plans(self):
        for function in (is_tour, tour_length):
            self.check_invalid_endless(function, (0, 1))
            self.check_stuck(function, (0, 1))
            self.check_not_held(function, (0, 1))
        for function in (shortest_tour, greatest_load, fullest_standing):
            self.check_invalid_endless(function)
            self.check_stuck(function)
            self.check_not_held(function)


class LoadTest(EndlessTest):
    def test_the_fullest_standing_is_as_full_as_a_shortest_tour_is_long(self):
        for plan in PLANS:
            table = endless_samples.gap_table(plan)
            tour = shortest_tour(plan)
            self.assertTrue(endless_samples.is_tour(plan, table, tour))
            standing = self.call(fullest_standing, plan)
            self.check_possible(plan, standing)
            # Each of these two numbers cannot be beyond the other one, so that both are the best ones.
            self.assertEqual(endless_samples.load(plan, standing), endless_samples.length_of(plan, table, tour))
            self.assertEqual(greatest_load(plan), endless_samples.length_of(plan, table, tour))
            self.assertEqual(greatest_load(plan), endless_samples.shortest_length(plan))

    def test_plans_with_twelve_waits(self):
        most = [plan for plan in PLANS if len(plan[1]) == 12]
        self.assertGreater(len(most), 3)
        for plan in most:
            self.assertEqual(sorted(shortest_tour(plan)), list(range(12)))

    def test_no_walk_leads_to_a_greater_load(self):
        for plan, walk, _ in endless_samples.walks(2, PLANS[::3], (60,)):
            most = greatest_load(plan)
            standing = (0,) * len(plan[0])
            for queue in walk:
                standing = endless_samples.one_more(standing, queue)
                self.assertLessEqual(endless_samples.load(plan, standing), most)

    def test_no_small_standing_has_a_greater_load(self):
        for plan in endless_samples.SMALL_HELD_PLANS[::2]:
            if len(plan[0]) <= 2:
                loads = [
                    endless_samples.load(plan, standing) for standing in product(range(9), repeat=len(plan[0]))
                    if endless_samples.is_possible(plan, standing)]
                self.assertLessEqual(max(loads), greatest_load(plan))

    def test_waits_that_share_what_they_can(self):
        plan = ((1, 1), (((0, 0), (1, 0), 0), ((1, 0), (0, 0), 3)))
        self.assertEqual(shortest_tour(plan), (1, 0))
        self.assertEqual(greatest_load(plan), 3)
        self.assertEqual(tour_length(plan, (0, 1)), 6)


if __name__ == "__main__":
    unittest.main()
