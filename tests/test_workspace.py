import random
import unittest
from functools import lru_cache

import samples
from flagplans import errors
from flagplans.least import least_plan
from flagplans.runs import is_run, least_run
from flagplans.workspace import Workspace
from twins import BooksWithMarks, Refused, Twin, is_number

NO_JOBS = samples.ODD_VALUES + [(), (0, 6), (4, 0), (0, 0, 0), [0, 0], (0, None), ("0", 0)]


@lru_cache(maxsize=None)
def flags_needed(plan):
    """The most least waits that are open at one possible moment, which are the fewest flags (point 11)."""
    thinner = (plan[0], samples.least_waits(plan))
    return max(len(samples.open_at(thinner, moment)) for moment in samples.possible_moments(plan))


class Books(BooksWithMarks):
    """What a workspace has to answer, by point 15 and the interface."""

    def __init__(self, number):
        if not (type(number) is int and number in (1, 2, 3, 4)):
            raise Refused(errors.InvalidNumber, None, None)
        BooksWithMarks.__init__(self, [[0] * number, [], []])

    def plan(self):
        sizes, waits, _ = self.state
        return tuple(sizes), tuple(sorted(waits))

    def finished(self):
        return list(self.state[2])

    def ready(self):
        pairs = samples.direct_pairs(self.plan())
        done = self.finished()
        return [
            job for job in samples.all_jobs(self.state[0])
            if job not in done and all(first in done for first, second in pairs if second == job)]

    def open_waits(self):
        done = self.finished()
        return [(a, b) for a, b in samples.least_waits(self.plan()) if a in done and b not in done]

    def flags_needed(self):
        return flags_needed(self.plan())

    def check_job(self, job):
        if not samples.is_one_of(job, samples.all_jobs(self.state[0])):
            raise Refused(errors.UnknownJob, "job", job)

    def add_job(self, queue):
        sizes = self.state[0]
        if not is_number(queue, len(sizes)):
            raise Refused(errors.InvalidQueue, "queue", queue)
        if sizes[queue] == 6:
            raise Refused(errors.TooMany, None, None)
        sizes[queue] += 1
        return queue, sizes[queue] - 1

    def add_wait(self, first, second):
        sizes, waits, done = self.state
        self.check_job(first)
        self.check_job(second)
        if first[0] == second[0]:
            raise Refused(errors.SameQueue, None, None)
        if (first, second) in waits:
            raise Refused(errors.WaitTaken, "wait", (first, second))
        if second in done:
            raise Refused(errors.Finished, "job", second)
        if len(waits) == 24:
            raise Refused(errors.TooMany, None, None)
        if samples.has_ring((sizes, waits + [(first, second)])):
            raise Refused(errors.RingMade, None, None)
        waits.append((first, second))

    def finish(self, job):
        self.check_job(job)
        if job in self.state[2]:
            raise Refused(errors.Finished, "job", job)
        if job not in self.ready():
            raise Refused(errors.NotReady, "job", job)
        self.state[2].append(job)

    def take_back(self):
        if not self.state[2]:
            raise Refused(errors.NothingFinished, None, None)
        return self.state[2].pop()


FREQUENT = ["add_wait", "finish"] * 6
LOOKS = ("plan", "finished", "marks", "ready", "open_waits", "flags_needed")


class Pair(Twin):
    """A workspace and the books for it."""

    def __init__(self, test, number):
        Twin.__init__(self, test, Workspace(number), Books(number), LOOKS)

    def some_job(self, rng):
        jobs = samples.all_jobs(self.books.state[0])
        if not jobs or rng.random() < 0.05:
            return rng.choice(NO_JOBS)
        return rng.choice(jobs)

    def ask_something(self, rng):
        """One call, mostly with right arguments."""
        name = rng.choice(FREQUENT + ["add_job"] * 4 + ["take_back"] * 2 + ["mark"] * 3 + ["back"])
        if name == "add_job":
            wrong = rng.random() < 0.1
            arguments = [rng.choice(samples.ODD_VALUES + [4] if wrong else range(len(self.books.state[0])))]
        elif name == "add_wait":
            arguments = [self.some_job(rng), self.some_job(rng)]
        elif name == "finish":
            ready = self.books.ready()
            arguments = [rng.choice(ready) if ready and rng.random() < 0.6 else self.some_job(rng)]
        elif name == "back":
            arguments = [rng.choice(samples.ODD_VALUES) if rng.random() < 0.1 else rng.randrange(-1, 7)]
        else:
            arguments = []
        self.ask(name, *arguments)


class HistoryTest(unittest.TestCase):
    def test_histories_of_calls(self):
        rng = random.Random(1)
        seen = set()
        for number in (1, 2, 3, 4) * 15:
            pair = Pair(self, number)
            pair.look()
            for _ in range(rng.choice((10, 30, 60))):
                pair.ask_something(rng)
            pair.check_kept()
            seen |= pair.seen
        for name, outcomes in {
            "add_job": ("InvalidQueue", "TooMany", "returned"),
            "add_wait": ("UnknownJob", "SameQueue", "WaitTaken", "Finished", "RingMade", "returned"),
            "finish": ("UnknownJob", "Finished", "NotReady", "returned"),
            "take_back": ("NothingFinished", "returned"),
            "mark": ("Full", "returned"),
            "back": ("InvalidMark", "returned"),
        }.items():
            for outcome in outcomes:
                self.assertIn((name, outcome), seen)

    def test_two_workspaces_do_not_influence_each_other(self):
        rng = random.Random(2)
        for _ in range(6):
            pairs = [Pair(self, rng.randint(1, 3)), Pair(self, rng.randint(1, 3))]
            for _ in range(60):
                rng.choice(pairs).ask_something(rng)
                for pair in pairs:
                    pair.look()
            for pair in pairs:
                pair.check_kept()

    def test_any_value_for_each_argument(self):
        pair = Pair(self, 2)
        for queue in (0, 0, 1, 1):
            pair.ask("add_job", queue)
        pair.ask("mark")
        for value in NO_JOBS + [(0, 2), (2, 0), (-1, 0)]:
            pair.ask("add_job", value)
            pair.ask("add_wait", value, (0, 0))
            pair.ask("add_wait", (0, 0), value)
            pair.ask("add_wait", value, value)
            pair.ask("finish", value)
            pair.ask("back", value)


class LimitsTest(unittest.TestCase):
    """Workspaces as great as they can become."""

    def full(self, plan):
        pair = Pair(self, len(plan[0]))
        for queue, size in enumerate(plan[0]):
            for _ in range(size):
                pair.ask("add_job", queue)
        return pair

    def test_six_jobs_and_24_waits_and_24_finished_jobs(self):
        plan = samples.FULL[0]
        pair = self.full(plan)
        for queue in range(4):
            pair.ask("add_job", queue)
        for wait in plan[1]:
            pair.ask("add_wait", *wait)
        self.assertEqual(pair.real.plan(), plan)
        run = least_run(plan)
        pair.ask("mark")
        for job in run:
            pair.ask("finish", run[-1])
            pair.ask("add_wait", (0, 5), (1, 0))
            pair.ask("add_wait", (3, 5), (1, 0))
            pair.ask("finish", job)
            pair.ask("finish", job)
        self.assertEqual(pair.real.finished(), list(run))
        self.assertTrue(is_run(pair.real.plan(), tuple(pair.real.finished())))
        for wait in plan[1]:
            pair.ask("add_wait", *wait)
            pair.ask("add_wait", *wait[::-1])
        for _ in range(25):
            pair.ask("take_back")
        pair.ask("back", 0)
        self.assertTrue({
            ("add_job", "TooMany"), ("add_wait", "WaitTaken"), ("add_wait", "Finished"), ("add_wait", "TooMany"),
            ("take_back", "NothingFinished"), ("finish", "NotReady")} <= pair.seen)

    def test_too_many_waits_before_a_ring(self):
        pair = self.full(samples.FULL[1])
        for wait in samples.FULL[1][1]:
            pair.ask("add_wait", *wait)
        first, second = samples.FULL[1][1][0]
        pair.ask("add_wait", second, first)
        self.assertIn(("add_wait", "TooMany"), pair.seen)
        self.assertNotIn(("add_wait", "RingMade"), pair.seen)

    def test_flags_of_the_least_waits_only(self):
        pair = self.full(((2, 1), ()))
        pair.ask("add_wait", (0, 0), (1, 0))
        pair.ask("add_wait", (0, 1), (1, 0))
        pair.ask("finish", (0, 0))
        self.assertEqual(pair.real.open_waits(), [])
        self.assertEqual(pair.real.flags_needed(), 1)
        self.assertEqual(least_plan(pair.real.plan())[1], (((0, 1), (1, 0)),))

    def test_a_wait_for_a_job_behind_a_finished_one(self):
        pair = self.full(((2, 2), ()))
        pair.ask("finish", (1, 0))
        pair.ask("add_wait", (0, 0), (1, 0))
        pair.ask("add_wait", (0, 0), (1, 1))
        pair.ask("finish", (1, 1))
        pair.ask("add_wait", (1, 0), (0, 1))
        self.assertEqual(pair.real.finished(), [(1, 0)])

    def test_numbers_of_queues(self):
        for number in (1, 2, 3, 4):
            self.assertEqual(Workspace(number).plan(), ((0,) * number, ()))
        for value in samples.ODD_VALUES + [(), 0, 5, -1, -2, True, False, None, "1", (1,), [1]]:
            if not samples.is_one_of(value, [1, 2, 3, 4]):
                with self.assertRaises(errors.InvalidNumber) as caught:
                    Workspace(value)
                self.assertIs(caught.exception.__class__, errors.InvalidNumber)


class MarksTest(unittest.TestCase):
    def with_marks(self):
        pair = Pair(self, 2)
        for number in range(7):
            pair.ask("mark")
            pair.ask("add_job", number % 2)
            if number % 3 == 1:
                pair.ask("finish", (number % 2, 0))
            if number == 3:
                pair.ask("add_wait", (0, 1), (1, 1))
        return pair

    def test_six_marks(self):
        pair = self.with_marks()
        self.assertEqual(pair.real.marks(), [0, 1, 2, 3, 4, 5])
        self.assertIn(("mark", "Full"), pair.seen)

    def test_returns_to_each_mark_and_later_marks_are_gone(self):
        for first in range(6):
            for second in range(7):
                pair = self.with_marks()
                pair.ask("back", first)
                self.assertEqual(pair.real.marks(), list(range(first + 1)))
                pair.ask("add_job", 1)
                pair.ask("finish", (1, 0))
                pair.ask("back", second)
                pair.ask("take_back")
                pair.ask("back", first)
                pair.ask("mark")
                pair.ask("back", first + 1)

    def test_no_marks(self):
        for value in (0, -1, 1, True, False, None):
            pair = Pair(self, 1)
            pair.ask("back", value)
            self.assertIn(("back", "InvalidMark"), pair.seen)

    def test_a_mark_stores_the_order_of_the_finished_jobs(self):
        pair = Pair(self, 2)
        for queue in (0, 1):
            pair.ask("add_job", queue)
        pair.ask("finish", (1, 0))
        pair.ask("finish", (0, 0))
        pair.ask("mark")
        pair.ask("take_back")
        pair.ask("take_back")
        pair.ask("finish", (0, 0))
        pair.ask("back", 0)
        self.assertEqual(pair.real.finished(), [(1, 0), (0, 0)])


if __name__ == "__main__":
    unittest.main()
