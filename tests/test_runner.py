import random
import unittest

import endless_samples
import samples
from endless_checks import EndlessTest
from flagplans import errors
from flagplans.opened import open_rounds
from flagplans.runner import Runner, clashing_choices
from flagplans.standings import is_walk, walk_to
from flagplans.turning import fewest_turning, turning_clash, turning_flags
from flagplans.wrongs import InvalidEndless, InvalidTurning, NotHeld, Stuck
from twins import Refused, Twin, is_number

PLANS = endless_samples.HELD_PLANS
LOOKS = ("blocked", "clashing", "up", "turns", "standing")
PAIR = endless_samples.PAIR
NO_QUEUES = samples.ODD_VALUES + [(), 4, -2]


def steps_of_turns(plan, queue, many):
    """The steps of the first turns of a queue, one turn after the other, as point 28 lists them."""
    found = []
    for number in range(many):
        job, turn_round = (queue, number % plan[0][queue]), number // plan[0][queue]
        for wait in sorted(plan[1]):
            if wait[1] == job and turn_round - wait[2] >= 0:
                found.append(("lower", wait, turn_round - wait[2]))
        found.append(("do", job, turn_round))
        for wait in sorted(plan[1]):
            if wait[0] == job:
                found.append(("raise", wait, turn_round))
    return found


class Books:
    """What a runner has to answer, by point 28 and the interface."""

    def __init__(self, plan, flags, turns=60):
        self.many = len(plan[0])
        self.rows = [steps_of_turns(plan, queue, turns) for queue in range(self.many)]
        self.flags = dict(zip(plan[1], flags))
        self.reached = [0] * self.many
        self.shown = {}
        self.done = []

    def next_step(self, queue):
        if not is_number(queue, self.many):
            raise Refused(errors.InvalidQueue, "queue", queue)
        return self.rows[queue][self.reached[queue]]

    def flag_of(self, step):
        row = self.flags[step[1]]
        return row[step[2] % len(row)]

    def is_blocked(self, queue):
        step = self.next_step(queue)
        return step[0] == "lower" and self.shown.get(self.flag_of(step)) != step[1:]

    def does_clash(self, queue):
        step = self.next_step(queue)
        return step[0] == "raise" and self.flag_of(step) in self.shown

    def step(self, queue):
        step = self.next_step(queue)
        if self.is_blocked(queue):
            raise Refused(errors.Blocked, "queue", queue)
        if self.does_clash(queue):
            raise Refused(errors.FlagUp, "flag", self.flag_of(step))
        if sum(self.reached) == 2000:
            raise Refused(errors.TooMany, None, None)
        if step[0] == "do":
            self.done.append(step[1:])
        elif step[0] == "raise":
            self.shown[self.flag_of(step)] = step[1:]
        else:
            del self.shown[self.flag_of(step)]
        self.reached[queue] += 1
        return step

    def blocked(self):
        return [queue for queue in range(self.many) if self.is_blocked(queue)]

    def clashing(self):
        return [queue for queue in range(self.many) if self.does_clash(queue)]

    def up(self):
        return sorted((flag, *what) for flag, what in self.shown.items())

    def turns(self):
        return list(self.done)

    def standing(self):
        queues = [job[0] for job, _ in self.done]
        return tuple(queues.count(queue) for queue in range(self.many))


class Pair(Twin):
    """A runner and the books for it."""

    def __init__(self, test, plan, flags, turns=60):
        Twin.__init__(self, test, Runner(plan, flags), Books(plan, flags, turns), LOOKS)

    def look(self):
        Twin.look(self)
        for queue in range(self.books.many):
            self.compare("next_step", queue)

    def free_queues(self):
        return [queue for queue in range(self.books.many) if queue not in self.books.blocked() + self.books.clashing()]

    def ask_something(self, rng):
        """One step, mostly of a queue that can carry it out."""
        free = self.free_queues()
        queue = rng.choice(free) if free and rng.random() < 0.8 else rng.randrange(self.books.many)
        self.ask("step", rng.choice(NO_QUEUES) if rng.random() < 0.02 else queue)


def random_flags(rng, plan):
    """Turning flags that may clash or not: clean ones, changed ones, or drawn ones."""
    flags = turning_flags(plan)
    kind = rng.randrange(4)
    if kind == 0:
        return flags
    if kind == 1:
        most = rng.choice((2, fewest_turning(plan) + 2, 500))
        return tuple(tuple(rng.randrange(most) for _ in range(rng.randint(1, 8))) for _ in plan[1])
    rows = [list(row) for row in flags]
    for row in rows:
        if rng.random() < 0.5:
            row[rng.randrange(len(row))] = rng.randrange(fewest_turning(plan) + 2)
    return tuple(map(tuple, rows))


class RunnerTest(EndlessTest):
    def test_drawn_steps(self):
        rng = random.Random(1)
        seen = set()
        for plan in PLANS:
            pair = Pair(self, plan, random_flags(rng, plan))
            pair.look()
            for _ in range(rng.choice((20, 60))):
                pair.ask_something(rng)
            pair.check_kept()
            seen |= pair.seen
        for outcome in ("returned", "Blocked", "FlagUp", "InvalidQueue"):
            self.assertIn(("step", outcome), seen)

    def test_two_runners_do_not_influence_each_other(self):
        rng = random.Random(2)
        for plan in PLANS[2:30:7]:
            flags = turning_flags(plan)
            pairs = [Pair(self, plan, flags), Pair(self, plan, flags)]
            for _ in range(40):
                rng.choice(pairs).ask_something(rng)
                for pair in pairs:
                    pair.look()

    def test_any_value_for_a_queue(self):
        pair = Pair(self, PAIR, turning_flags(PAIR))
        for value in NO_QUEUES + [2, (0,), [1], "1"]:
            if not is_number(value, 2):
                pair.ask("step", value)
                pair.ask("next_step", value)
        self.assertIn(("next_step", "InvalidQueue"), pair.seen)

    def test_nothing_changes_when_a_step_is_refused(self):
        pair = Pair(self, PAIR, ((0,), (0,)))
        for queue in (1, 1, 0, 0, 0, 0, 1, 0):
            pair.ask("step", queue)
        self.assertTrue({("step", "Blocked"), ("step", "FlagUp"), ("step", "returned")} <= pair.seen)

    def test_what_a_flag_shows(self):
        # The flag is up, but shows another wait than the one that the queue would lower.
        plan = endless_samples.TWO_PAIRS
        pair = Pair(self, plan, ((0,), (1,), (0,), (2,)))
        pair.ask("step", 2)
        pair.ask("step", 2)
        self.assertEqual(pair.real.up(), [(0, plan[1][2], 0)])
        pair.ask("step", 1)
        self.assertIn(("step", "Blocked"), pair.seen)
        pair.ask("step", 0)
        pair.ask("step", 0)
        self.assertIn(("step", "FlagUp"), pair.seen)
        self.assertEqual(pair.real.clashing(), [0])

    def test_2000_steps(self):
        plan = ((1, 1), (((0, 0), (1, 0), 0), ((1, 0), (0, 0), 1)))
        pair = Pair(self, plan, ((0,), (0,)), 400)
        for k in range(2000):
            pair.compare("step", pair.free_queues()[0])
        pair.look()
        self.assertNotIn(("step", "TooMany"), pair.seen)
        blocked = pair.books.blocked()[0]
        pair.ask("step", blocked)
        pair.ask("step", 2)
        pair.ask("step", pair.free_queues()[0])
        self.assertTrue({("step", "Blocked"), ("step", "InvalidQueue"), ("step", "TooMany")} <= pair.seen)

    def test_flag_up_before_too_many(self):
        # The third queue is about to raise the flag that the first two ones raise and lower again and again.
        outcomes = []
        for many in range(3):
            pair = Pair(self, endless_samples.TWO_PAIRS, ((0,), (1,), (0,), (2,)), 700)
            for queue in [2] + [3] * many:
                pair.compare("step", queue)
            while sum(pair.books.reached) < 2000:
                pair.compare("step", pair.free_queues()[0])
            pair.ask("step", 2)
            outcomes.append(("step", "FlagUp") in pair.seen)
        self.assertIn(True, outcomes)

    def test_without_waits(self):
        for plan in (endless_samples.SINGLE, ((2, 3), ())):
            pair = Pair(self, plan, ())
            for queue in range(len(plan[0])):
                for _ in range(5):
                    pair.ask("step", queue)
            self.assertEqual(pair.real.up(), [])

    def test_errors_in_their_order(self):
        self.check_invalid_endless(Runner, ((0,), (1,)))
        self.check_stuck(Runner, ((0,), (1,)))
        self.check_not_held(Runner, ((0,), (1,)))
        self.check_raises(InvalidEndless, Runner, None, None)
        self.check_raises(Stuck, Runner, endless_samples.TWO_JOBS_STUCK, None)
        self.check_raises(NotHeld, Runner, endless_samples.NOT_HELD, None)
        for value in samples.ODD_VALUES + [(), ((0,),), ((0,), ()), ((0,), (500,)), ((0,), (-1,)), [(0,), (1,)]]:
            if not endless_samples.is_turning(PAIR, value):
                self.check_raises(InvalidTurning, Runner, PAIR, value)
                self.check_raises(InvalidTurning, clashing_choices, PAIR, value)
        self.check_invalid_endless(clashing_choices, ((0,), (1,)))
        self.check_stuck(clashing_choices, ((0,), (1,)))
        self.check_not_held(clashing_choices, ((0,), (1,)))


class CleanFlagsTest(EndlessTest):
    def test_whatever_queues_carry_out_steps(self):
        rng = random.Random(3)
        for plan in PLANS[::2]:
            runner = Runner(plan, turning_flags(plan))
            queues = range(len(plan[0]))
            # Some queues go on wherever they can, others only when nobody else can.
            order = rng.sample(queues, len(queues))
            for k in range(150):
                blocked = runner.blocked()
                self.assertLess(len(blocked), len(plan[0]))
                self.assertEqual(runner.clashing(), [])
                free = [queue for queue in order if queue not in blocked]
                runner.step(free[0] if k % 3 else rng.choice(free))
            walk = [job[0] for job, _ in runner.turns()]
            self.assertIs(is_walk(plan, walk), True)
            self.assertEqual(tuple(walk.count(queue) for queue in queues), runner.standing())

    def test_each_walk_can_be_carried_out(self):
        for plan, walk, standing in endless_samples.walks(4, PLANS[::2], (40,)):
            runner = Runner(plan, turning_flags(plan))
            for queue in walk:
                done = len(runner.turns())
                while len(runner.turns()) == done:
                    runner.step(queue)
                while runner.next_step(queue)[0] == "raise":
                    runner.step(queue)
            self.assertEqual([job[0] for job, _ in runner.turns()], walk)
            self.assertEqual(runner.standing(), standing)
            # Each queue has just raised its flags, and has not yet lowered any for its next turn.
            shown = [(wait, number) for wait in plan[1] for number in open_rounds(plan, standing, wait)]
            self.assertEqual(sorted((wait, number) for _, wait, number in runner.up()), shown)

    def test_no_choices_end_with_a_clash(self):
        for plan in PLANS:
            self.assertIsNone(self.call(clashing_choices, plan, turning_flags(plan)))


class ClashingChoicesTest(EndlessTest):
    def check(self, plan, flags):
        choices = self.call(clashing_choices, plan, flags)
        if choices is None:
            return
        self.assertIs(type(choices), list)
        self.assertTrue(choices)
        books = Books(plan, flags, len(choices) + 1)
        for queue in choices[:-1]:
            self.assertTrue(is_number(queue, len(plan[0])))
            books.step(queue)
        self.assertTrue(is_number(choices[-1], len(plan[0])))
        self.assertIs(books.does_clash(choices[-1]), True)
        if len(choices) < 2000:
            runner = Runner(plan, flags)
            for queue in choices[:-1]:
                runner.step(queue)
            self.assertIn(choices[-1], runner.clashing())
            self.check_raises(errors.FlagUp, runner.step, choices[-1])

    def test_drawn_flags(self):
        rng = random.Random(5)
        many = 0
        for plan in PLANS:
            for _ in range(3):
                flags = random_flags(rng, plan)
                clean = turning_clash(plan, flags) is None
                self.assertIs(clashing_choices(plan, flags) is None, clean)
                self.check(plan, flags)
                many += not clean
        self.assertGreater(many, 60)

    def test_one_flag_for_all(self):
        for plan in PLANS:
            flags = ((0,),) * len(plan[1])
            self.assertIs(clashing_choices(plan, flags) is None, fewest_turning(plan) <= 1)
            self.check(plan, flags)

    def test_late_clashes(self):
        plan = ((1, 1), (((0, 0), (1, 0), 0), ((1, 0), (0, 0), 2)))
        for place in range(7):
            rows = (tuple(range(10, 17)), tuple(10 + place if k == 7 else k for k in range(8)))
            self.check(plan, rows)
            self.assertIsNotNone(clashing_choices(plan, rows))

    def test_walks_that_lead_to_the_clash(self):
        plan = endless_samples.TWO_PAIRS
        flags = ((0, 1, 2, 3), (0, 1, 2, 3), (4, 5, 6, 3), (8, 9, 10, 11))
        self.check(plan, flags)
        self.assertTrue(walk_to(plan, turning_clash(plan, flags)[0]))


if __name__ == "__main__":
    unittest.main()
