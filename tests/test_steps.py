import random
import unittest
from itertools import permutations

import samples
from checks import FunctionTest
from flagplans.errors import Blocked, Ended, FlagUp, InvalidChoices, InvalidQueue
from flagplans.fewest import assign_flags
from flagplans.runs import is_run, least_run
from flagplans.steps import steps, walk

CLEAN_PLANS = samples.SOUND_PLANS + samples.BIG_SOUND_PLANS


def steps_by_point_13(plan, flags):
    flag_of = dict(zip(plan[1], flags))
    rows = [[] for _ in plan[0]]
    for job in samples.all_jobs(plan[0]):
        row = rows[job[0]]
        for wait in sorted(plan[1]):
            if wait[1] == job:
                row.append(("lower", flag_of[wait], wait))
        row.append(("do", job))
        for wait in sorted(plan[1]):
            if wait[0] == job:
                row.append(("raise", flag_of[wait], wait))
    return rows


def random_flags(rng, plan, different):
    return tuple(rng.randrange(different) for _ in plan[1])


class Signals:
    """The queues with their steps, and which wait each flag shows that is up (point 13)."""

    def __init__(self, plan, flags):
        self.left = steps_by_point_13(plan, flags)
        self.shown = {}
        self.done = []

    def hindrance(self, queue):
        """The error that the next step of a queue raises and the value that it keeps, or None."""
        if not self.left[queue]:
            return Ended, "queue", queue
        word, *rest = self.left[queue][0]
        if word == "lower" and self.shown.get(rest[0]) != rest[1]:
            return Blocked, "queue", queue
        if word == "raise" and rest[0] in self.shown:
            return FlagUp, "flag", rest[0]
        return None

    def free(self):
        return [queue for queue in range(len(self.left)) if self.hindrance(queue) is None]

    def go(self, queue):
        word, *rest = self.left[queue].pop(0)
        if word == "do":
            self.done.append(rest[0])
        elif word == "raise":
            self.shown[rest[0]] = rest[1]
        else:
            del self.shown[rest[0]]

    def result(self):
        return tuple(self.done), tuple(sorted(self.shown))

    def many_left(self):
        return sum(len(row) for row in self.left)


class StepsTest(FunctionTest):
    def test_all_plans(self):
        rng = random.Random(1)
        for plan in samples.PLANS + samples.BIG_SOUND_PLANS:
            for different in (1, 3, 24):
                flags = random_flags(rng, plan, different)
                self.assertTrue(samples.same_kind(self.call(steps, plan, flags), steps_by_point_13(plan, flags)))

    def test_several_waits_of_one_job(self):
        waits = (((0, 0), (1, 0)), ((0, 0), (2, 0)), ((1, 0), (2, 0)))
        first, second, third = waits
        self.assertEqual(self.call(steps, ((1, 1, 1), waits), (9, 4, 23)), [
            [("do", (0, 0)), ("raise", 9, first), ("raise", 4, second)],
            [("lower", 9, first), ("do", (1, 0)), ("raise", 23, third)],
            [("lower", 4, second), ("lower", 23, third), ("do", (2, 0))]])

    def test_plans_with_rings(self):
        wait, other = samples.SMALL_RING[1]
        self.assertEqual(self.call(steps, samples.SMALL_RING, (0, 1)), [
            [("lower", 1, other), ("do", (0, 0)), ("raise", 0, wait)],
            [("lower", 0, wait), ("do", (1, 0)), ("raise", 1, other)]])

    def test_queues_without_jobs(self):
        self.assertEqual(self.call(steps, ((0, 1, 0), ()), ()), [[], [("do", (1, 0))], []])

    def test_wrong_arguments(self):
        self.check_invalid_plan(steps, (0, 1))
        self.check_invalid_flags(steps, samples.PLANS)


class WalkTest(FunctionTest):
    def check_hindrances(self, plan, flags, choices, signals):
        """Each queue that cannot go on raises its error, whatever stands behind it."""
        for queue in range(len(plan[0])):
            hindrance = signals.hindrance(queue)
            if hindrance is not None:
                error, name, value = hindrance
                for more in ([], [queue], [None], ["a", 9], signals.free()):
                    caught = self.check_raises(error, walk, plan, flags, choices + [queue] + more)
                    self.assertTrue(samples.same_kind(getattr(caught, name), value))

    def check_walk(self, rng, plan, flags, many=99):
        signals = Signals(plan, flags)
        choices = []
        while signals.free() and len(choices) < many:
            queue = rng.choice(signals.free())
            signals.go(queue)
            choices.append(queue)
            self.assertTrue(samples.same_kind(walk(plan, flags, choices), signals.result()))
        self.assertTrue(samples.same_kind(self.call(walk, plan, flags, choices), signals.result()))
        self.check_hindrances(plan, flags, choices, signals)
        return signals

    def test_choices_among_the_queues_that_can_go_on(self):
        rng = random.Random(2)
        for plan in samples.PLANS + samples.FULL:
            for different in (1, 2, 24):
                for many in (0, 1, 3, 8, 99):
                    self.check_walk(rng, plan, random_flags(rng, plan, different), many)

    def test_a_flag_that_is_up(self):
        caught = self.check_raises(FlagUp, walk, samples.PAIR, (7, 7), [0, 0, 0, 0, 0])
        self.assertEqual(caught.flag, 7)
        self.assertEqual(walk(samples.PAIR, (7, 7), [0, 0, 0]), (((0, 0), (0, 1)), (7,)))
        self.assertEqual(walk(samples.PAIR, (7, 3), [0, 0, 0, 0]), (((0, 0), (0, 1)), (3, 7)))

    def test_a_flag_that_is_down_or_shows_another_wait(self):
        self.check_keeps(Blocked, "queue", walk, 1, samples.PAIR, (7, 7), [1])
        plan = ((1, 1, 1), (((0, 0), (1, 0)), ((2, 0), (1, 0))))
        self.check_keeps(Blocked, "queue", walk, 1, plan, (5, 5), [2, 2, 1])
        self.assertEqual(walk(plan, (5, 5), [0, 0, 1, 2, 2, 1, 1]), (((0, 0), (2, 0), (1, 0)), ()))
        self.check_keeps(FlagUp, "flag", walk, 5, plan, (5, 5), [0, 0, 2, 2])

    def test_a_queue_that_has_ended(self):
        self.check_keeps(Ended, "queue", walk, 0, ((0, 1), ()), (), [0])
        self.check_keeps(Ended, "queue", walk, 1, ((0, 1), ()), (), [1, 1])

    def test_plans_with_rings(self):
        for queue in (0, 1):
            self.check_keeps(Blocked, "queue", walk, queue, samples.SMALL_RING, (0, 1), [queue])

    def test_values_that_are_no_queues(self):
        for plan in (samples.PAIR, samples.WIDE, samples.SMALL_RING, samples.EMPTY):
            flags = tuple(range(len(plan[1])))
            for value in samples.ODD_VALUES + [(), len(plan[0]), -1, plan, [0]]:
                if not samples.is_one_of(value, list(range(len(plan[0])))):
                    self.check_keeps(InvalidQueue, "queue", walk, value, plan, flags, [value])
                    self.check_keeps(InvalidQueue, "queue", walk, value, plan, flags, [value, None, 0])
        for value in (True, False, 2):
            self.check_keeps(InvalidQueue, "queue", walk, value, samples.PAIR, (0, 1), [0, value, 1, 1, 1])

    def test_the_first_entry_that_cannot_be_carried_out(self):
        self.check_keeps(Blocked, "queue", walk, 1, samples.PAIR, (0, 1), [0, 1, True, 1])
        self.check_keeps(InvalidQueue, "queue", walk, "1", samples.PAIR, (0, 1), [0, "1", 1])

    def test_values_that_are_no_lists(self):
        for plan in (samples.PAIR, samples.SMALL_RING, samples.EMPTY):
            flags = tuple(range(len(plan[1])))
            self.assertEqual(self.call(walk, plan, flags, []), ((), ()))
            for value in samples.ODD_VALUES + [(0, 0), (), plan]:
                if not isinstance(value, list):
                    self.check_raises(InvalidChoices, walk, plan, flags, value)

    def test_wrong_plans_and_flags_first(self):
        for choices in ([], [0], [9], None):
            self.check_invalid_plan(walk, (0, 1), choices)
        for choices in ([0], None):
            self.check_invalid_flags(walk, samples.PLANS[:20] + samples.RING_PLANS, choices)


class CleanFlagsTest(FunctionTest):
    """What points 3 and 13 promise of clean flags of a sound plan."""

    def test_every_way_leads_through_the_beginning_of_a_run_to_its_end(self):
        rng = random.Random(3)
        for plan in CLEAN_PLANS:
            for flags in (assign_flags(plan), tuple(range(len(plan[1])))):
                for _ in range(3):
                    signals = Signals(plan, flags)
                    choices = []
                    while signals.many_left():
                        self.assertNotIn(FlagUp, [(signals.hindrance(q) or [None])[0] for q in range(len(plan[0]))])
                        self.assertTrue(signals.free())
                        choices.append(rng.choice(signals.free()))
                        signals.go(choices[-1])
                    done, flags_up = walk(plan, flags, choices)
                    self.assertIs(is_run(plan, done), True)
                    self.assertEqual(flags_up, ())
                    for many in range(len(choices)):
                        begun = walk(plan, flags, choices[:many])[0]
                        self.assertEqual(begun, done[:len(begun)])

    def carry_out(self, plan, flags, run):
        """Carry out the steps of each job of a run behind those of the job before it."""
        rows = steps(plan, flags)
        choices = []
        for queue, place in run:
            lengths = [word for word, *_ in rows[queue]]
            end = lengths.index("do", lengths.index("do") + 1) if lengths.count("do") > 1 else len(lengths)
            while end and lengths[end - 1] == "lower":
                end -= 1
            choices.extend([queue] * end)
            rows[queue] = rows[queue][end:]
        return walk(plan, flags, choices)

    def test_every_run_can_be_carried_out(self):
        for plan in samples.SOUND_PLANS:
            if sum(plan[0]) <= 6:
                for row in permutations(samples.all_jobs(plan[0])):
                    if is_run(plan, row):
                        self.assertEqual(self.carry_out(plan, assign_flags(plan), row), (row, ()))
        for plan in samples.BIG_SOUND_PLANS:
            run = least_run(plan)
            self.assertEqual(self.carry_out(plan, assign_flags(plan), run), (run, ()))


if __name__ == "__main__":
    unittest.main()
