import random
import unittest

import endless_samples
import samples
from flagplans import errors
from flagplans.mill import Mill
from flagplans.wrongs import InvalidEndless, InvalidStanding, NotHeld, Stuck
from twins import BooksWithMarks, Refused, Twin, is_number

NO_VALUES = samples.ODD_VALUES + [(), (0, 4), (4, 0), (0, 0, 0), [0, 0], (0, None), ("0", 0)]
LOOKS = ("plan", "turns", "standing", "marks", "ready", "opened", "needed_flags")
PAIR = endless_samples.PAIR


class Books(BooksWithMarks):
    """What a mill has to answer, by point 27 and the interface."""

    def __init__(self, sizes):
        self.sizes = sizes
        BooksWithMarks.__init__(self, [[], []])

    def plan(self):
        return self.sizes, tuple(sorted(self.state[0]))

    def turns(self):
        return list(self.state[1])

    def standing(self):
        queues = [job[0] for job, _ in self.state[1]]
        return tuple(queues.count(queue) for queue in range(len(self.sizes)))

    def ready(self):
        return endless_samples.ready_at(self.plan(), self.standing())

    def opened(self):
        plan, standing = self.plan(), self.standing()
        return [(wait, number) for wait in plan[1] for number in endless_samples.open_rounds(plan, standing, wait)]

    def needed_flags(self):
        least = endless_samples.least_plan(self.plan())
        wait = endless_samples.first_not_held(least)
        if wait is not None:
            raise Refused(NotHeld, "wait", wait)
        return endless_samples.shortest_length(least)

    def check_jobs(self, *jobs):
        for job in jobs:
            if not samples.is_one_of(job, samples.all_jobs(self.sizes)):
                raise Refused(errors.UnknownJob, "job", job)

    def add_wait(self, first, second, distance):
        self.check_jobs(first, second)
        if first[0] == second[0]:
            raise Refused(errors.SameQueue, None, None)
        if not is_number(distance, 4):
            raise Refused(errors.InvalidNumber, None, None)
        wait = (first, second, distance)
        waits, turns = self.state
        if wait in waits:
            raise Refused(errors.WaitTaken, "wait", wait)
        if len(waits) == 12:
            raise Refused(errors.TooMany, None, None)
        plan = (self.sizes, tuple(sorted(waits + [wait])))
        if endless_samples.has_zero_circle(plan):
            raise Refused(Stuck, "circle", lambda circle: is_zero_circle(plan, circle))
        standing = (0,) * len(self.sizes)
        for (queue, _), _ in turns:
            if queue not in endless_samples.ready_at(plan, standing):
                raise Refused(InvalidStanding, None, None)
            standing = endless_samples.one_more(standing, queue)
        waits.append(wait)

    def drop_wait(self, wait):
        if not samples.is_one_of(wait, self.state[0]):
            raise Refused(errors.UnknownWait, "wait", wait)
        self.state[0].remove(wait)

    def do(self, queue):
        if not is_number(queue, len(self.sizes)):
            raise Refused(errors.InvalidQueue, "queue", queue)
        if queue not in self.ready():
            raise Refused(errors.Blocked, "queue", queue)
        if len(self.state[1]) == 100:
            raise Refused(errors.TooMany, None, None)
        many = self.standing()[queue]
        self.state[1].append(((queue, many % self.sizes[queue]), many // self.sizes[queue]))
        return self.state[1][-1]

    def take_back(self):
        if not self.state[1]:
            raise Refused(errors.NothingFinished, None, None)
        return self.state[1].pop()


def is_zero_circle(plan, circle):
    return endless_samples.is_circle(plan, circle) and sum(link[2] for link in circle) == 0


class Pair(Twin):
    """A mill and the books for it."""

    def __init__(self, test, sizes):
        Twin.__init__(self, test, Mill(sizes), Books(sizes), LOOKS)

    def fill(self, plan):
        """Add all waits of a sound plan."""
        for wait in plan[1]:
            self.compare("add_wait", *wait)
        self.test.assertEqual(self.real.plan(), plan)
        self.look()

    def some_job(self, rng):
        if rng.random() < 0.05:
            return rng.choice(NO_VALUES)
        return rng.choice(samples.all_jobs(self.books.sizes))

    def some_wait(self, rng):
        waits = self.books.state[0]
        if waits and rng.random() < 0.8:
            return rng.choice(waits)
        return rng.choice(NO_VALUES + [endless_samples.WAIT])

    def ask_something(self, rng):
        """One call, mostly with right arguments."""
        name = rng.choice(
            ["add_wait"] * 6 + ["do"] * 10 + ["drop_wait", "take_back", "take_back", "mark", "mark", "back"])
        if name == "add_wait":
            distance = rng.choice(NO_VALUES + [4]) if rng.random() < 0.05 else rng.choice((0, 0, 1, 1, 1, 2, 3))
            arguments = [self.some_job(rng), self.some_job(rng), distance]
        elif name == "drop_wait":
            arguments = [self.some_wait(rng)]
        elif name == "do":
            wrong = rng.random() < 0.1
            arguments = [rng.choice(NO_VALUES + [len(self.books.sizes)]) if wrong else rng.choice(self.books.ready())]
            if rng.random() < 0.1:
                arguments = [rng.randrange(len(self.books.sizes))]
        elif name == "back":
            arguments = [rng.choice(NO_VALUES) if rng.random() < 0.1 else rng.randrange(-1, 7)]
        else:
            arguments = []
        self.ask(name, *arguments)


class HistoryTest(unittest.TestCase):
    def test_histories_of_calls(self):
        rng = random.Random(1)
        seen = set()
        for _ in range(150):
            sizes = tuple(rng.randint(1, rng.choice((1, 2, 4))) for _ in range(rng.randint(1, 4)))
            pair = Pair(self, sizes)
            pair.look()
            for _ in range(rng.choice((10, 30, 60))):
                pair.ask_something(rng)
            pair.check_kept()
            seen |= pair.seen
        for name, outcomes in {
            "add_wait": (
                "UnknownJob", "SameQueue", "InvalidNumber", "WaitTaken", "Stuck", "InvalidStanding", "returned"),
            "drop_wait": ("UnknownWait", "returned"),
            "do": ("InvalidQueue", "Blocked", "returned"),
            "take_back": ("NothingFinished", "returned"),
            "mark": ("Full", "returned"),
            "back": ("InvalidMark", "returned"),
            "needed_flags": ("NotHeld", "returned"),
        }.items():
            for outcome in outcomes:
                self.assertIn((name, outcome), seen)

    def test_two_mills_do_not_influence_each_other(self):
        rng = random.Random(2)
        for _ in range(5):
            pairs = [Pair(self, (1, 2)), Pair(self, (1, 2))]
            for _ in range(40):
                rng.choice(pairs).ask_something(rng)
                for pair in pairs:
                    pair.look()
            for pair in pairs:
                pair.check_kept()

    def test_any_value_for_each_argument(self):
        pair = Pair(self, (2, 1))
        pair.fill(endless_samples.LINE)
        for queue in (0, 0, 1):
            pair.ask("do", queue)
        pair.ask("mark")
        for value in NO_VALUES + [(0, 2), (2, 0), (-1, 0), ((0, 1), (1, 0), False), [(0, 1), (1, 0), 0]]:
            pair.ask("add_wait", value, (0, 0), 1)
            pair.ask("add_wait", (0, 0), value, 1)
            pair.ask("add_wait", value, value, value)
            if not is_number(value, 4):
                pair.ask("add_wait", (0, 0), (1, 0), value)
            pair.ask("drop_wait", value)
            if not is_number(value, 2):
                pair.ask("do", value)
            if not is_number(value, 1):
                pair.ask("back", value)
        pair.check_kept()


class ErrorsTest(unittest.TestCase):
    def last_seen(self, pair, name, *arguments):
        pair.seen.clear()
        pair.ask(name, *arguments)
        return [outcome for method, outcome in pair.seen if method == name]

    def test_sizes(self):
        for size in range(-1, 7):
            for sizes in ((size,), (2, size), (size, 4, 1, 1)):
                if 1 <= size <= 4:
                    self.assertEqual(Mill(sizes).plan(), (sizes, ()))
                else:
                    self.refuse_sizes(sizes)
        for value in NO_VALUES + [(), (1, 1, 1, 1, 1), [1, 1], (1, True), (1, "1"), ((1, 1), ()), (1, None), 1, None]:
            self.refuse_sizes(value)

    def refuse_sizes(self, value):
        with self.assertRaises(InvalidEndless) as caught:
            Mill(value)
        self.assertIs(caught.exception.__class__, InvalidEndless)

    def test_the_order_of_the_errors_of_add_wait(self):
        pair = Pair(self, (2, 2))
        pair.fill(((2, 2), (((0, 0), (1, 0), 0), ((1, 0), (0, 1), 1))))
        for arguments, outcome in (
                (((5, 5), (6, 6), 9), "UnknownJob"), (((0, 0), (0, 2), 9), "UnknownJob"),
                (((0, 0), (0, 0), 9), "SameQueue"), (((0, 0), (0, 1), True), "SameQueue"),
                (((0, 0), (1, 0), 4), "InvalidNumber"), (((0, 0), (1, 0), False), "InvalidNumber"),
                (((0, 0), (1, 0), 0), "WaitTaken"), (((1, 0), (0, 0), 0), "Stuck"),
                (((1, 1), (0, 0), 0), "Stuck"), (((1, 0), (0, 1), 0), "returned")):
            self.assertEqual(self.last_seen(pair, "add_wait", *arguments), [outcome], arguments)

    def test_twelve_waits(self):
        rng = random.Random(3)
        plan = endless_samples.random_sound(rng, (3, 3, 3), 12)
        self.assertEqual(len(plan[1]), 12)
        pair = Pair(self, plan[0])
        pair.fill(plan)
        for wait in plan[1]:
            self.assertEqual(self.last_seen(pair, "add_wait", *wait), ["WaitTaken"])
            if wait[2] == 0:
                self.assertEqual(self.last_seen(pair, "add_wait", wait[1], wait[0], 0), ["TooMany"])
        taken = plan[1][0]
        self.assertEqual(self.last_seen(pair, "drop_wait", taken), ["returned"])
        self.assertEqual(self.last_seen(pair, "drop_wait", taken), ["UnknownWait"])
        self.assertEqual(self.last_seen(pair, "add_wait", *taken), ["returned"])
        self.assertEqual(self.last_seen(pair, "add_wait", (2, 2), (0, 0), 3), ["TooMany"])

    def test_a_hundred_turns(self):
        pair = Pair(self, (1, 1))
        pair.fill(PAIR)
        for k in range(100):
            self.assertEqual(self.last_seen(pair, "do", (0, 0, 1, 1)[k % 4]), ["returned"])
        self.assertEqual(self.last_seen(pair, "do", 1), ["Blocked"])
        self.assertEqual(self.last_seen(pair, "do", 2), ["InvalidQueue"])
        self.assertEqual(self.last_seen(pair, "do", 0), ["TooMany"])
        self.assertEqual(len(pair.real.turns()), 100)
        self.assertEqual(self.last_seen(pair, "take_back"), ["returned"])
        self.assertEqual(self.last_seen(pair, "do", 1), ["returned"])
        for _ in range(100):
            self.assertEqual(self.last_seen(pair, "take_back"), ["returned"])
        self.assertEqual(self.last_seen(pair, "take_back"), ["NothingFinished"])
        pair.check_kept()

    def test_finished_turns_that_are_no_walk_with_a_wait(self):
        pair = Pair(self, (1, 1))
        for queue in (1, 0, 0):
            pair.ask("do", queue)
        # The standing would be possible, but not the order of the turns.
        self.assertEqual(self.last_seen(pair, "add_wait", (0, 0), (1, 0), 0), ["InvalidStanding"])
        self.assertEqual(self.last_seen(pair, "add_wait", (0, 0), (1, 0), 1), ["returned"])
        self.assertEqual(self.last_seen(pair, "add_wait", (1, 0), (0, 0), 0), ["InvalidStanding"])
        self.assertEqual(self.last_seen(pair, "add_wait", (1, 0), (0, 0), 1), ["returned"])
        pair.ask("drop_wait", ((0, 0), (1, 0), 1))
        pair.ask("take_back")
        self.assertEqual(self.last_seen(pair, "add_wait", (1, 0), (0, 0), 0), ["returned"])
        self.assertEqual(self.last_seen(pair, "add_wait", (0, 0), (1, 0), 0), ["Stuck"])

    def test_stuck_before_finished_turns(self):
        pair = Pair(self, (1, 1))
        pair.fill(((1, 1), (((0, 0), (1, 0), 0),)))
        pair.ask("do", 0)
        self.assertEqual(self.last_seen(pair, "add_wait", (1, 0), (0, 0), 0), ["Stuck"])

    def test_needed_flags_of_the_least_plan_only(self):
        pair = Pair(self, (1, 1))
        pair.fill(((1, 1), (((0, 0), (1, 0), 0), ((0, 0), (1, 0), 3), ((1, 0), (0, 0), 2))))
        self.assertEqual(pair.real.needed_flags(), 2)
        pair.ask("drop_wait", ((1, 0), (0, 0), 2))
        self.assertEqual(self.last_seen(pair, "needed_flags"), ["NotHeld"])
        pair.ask("drop_wait", ((0, 0), (1, 0), 0))
        self.assertEqual(self.last_seen(pair, "needed_flags"), ["NotHeld"])
        pair.ask("drop_wait", ((0, 0), (1, 0), 3))
        self.assertEqual(pair.real.needed_flags(), 0)


class MarksTest(unittest.TestCase):
    def with_marks(self):
        pair = Pair(self, (2, 1))
        for number in range(7):
            pair.ask("mark")
            pair.ask("do", (0, 0, 1)[number % 3])
            if number == 1:
                pair.ask("add_wait", (0, 1), (1, 0), 0)
            if number == 3:
                pair.ask("add_wait", (1, 0), (0, 0), 1)
            if number == 4:
                pair.ask("drop_wait", ((0, 1), (1, 0), 0))
        return pair

    def test_six_marks(self):
        pair = self.with_marks()
        self.assertEqual(pair.real.marks(), [0, 1, 2, 3, 4, 5])
        self.assertIn(("mark", "Full"), pair.seen)

    def test_returns_to_each_mark_and_later_marks_are_gone(self):
        for first in range(6):
            for second in range(7):
                pair = self.with_marks()
                pair.ask("back", first)
                self.assertEqual(pair.real.marks(), list(range(first + 1)))
                pair.ask("do", 0)
                pair.ask("add_wait", (1, 0), (0, 1), 2)
                pair.ask("back", second)
                pair.ask("take_back")
                pair.ask("back", first)
                pair.ask("mark")
                pair.ask("back", first + 1)
                pair.check_kept()

    def test_no_marks(self):
        for value in (0, -1, 1, True, False, None):
            pair = Pair(self, (1,))
            pair.ask("back", value)
            self.assertIn(("back", "InvalidMark"), pair.seen)


if __name__ == "__main__":
    unittest.main()
