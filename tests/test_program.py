"""What the document promises over the whole program (points 2 and 3)."""

import copy
import importlib
import random
import unittest
from itertools import combinations

import endless_samples
import samples
from checks import RIGHT, lists_in
from flagplans.checker import check
from flagplans.endless import zero_circle
from flagplans.errors import PlanError
from flagplans.fewest import assign_flags, fewest_flags
from flagplans.gaps import gap, gap_heights, gap_row
from flagplans.least import least_plan, least_waits, same_runs
from flagplans.mill import Mill
from flagplans.opened import bound_of, full_standing
from flagplans.opening import busiest_moment, most_open
from flagplans.order import shortest_ring
from flagplans.pace import critical_circle, timetable
from flagplans.records import judge
from flagplans.runner import Runner, clashing_choices
from flagplans.runs import count_runs, is_run, least_run
from flagplans.standings import is_walk, ready_queues
from flagplans.steps import steps, walk
from flagplans.thin import least_endless, parting_standing
from flagplans.tours import fullest_standing, greatest_load, shortest_tour
from flagplans.turning import fewest_turning, turning_clash, turning_flags
from flagplans.workspace import Workspace
from test_interface import FUNCTIONS

SOUND = samples.SOUND_PLANS
HELD = endless_samples.HELD_PLANS
ENDLESS = HELD + endless_samples.NOT_HELD_PLANS


def calls_of_plans(plan):
    """Calls of all functions that take a plan, sound or not, or a value."""
    jobs = samples.all_jobs(plan[0]) or [(0, 0)]
    waits = plan[1] or (((0, 0), (1, 0)),)
    zero, flags = (0,) * len(plan[0]), tuple(range(len(plan[1])))
    return {
        "is_plan": (plan,), "jobs": (plan,), "is_job": (plan, jobs[-1]), "is_ring": (plan, jobs), "is_sound": (plan,),
        "shortest_ring": (plan,), "is_before": (plan, jobs[0], jobs[-1]), "is_run": (plan, tuple(jobs)),
        "least_run": (plan,), "count_runs": (plan,), "is_moment": (plan, zero), "count_moments": (plan,),
        "moments": (plan,), "ready": (plan, zero), "least_waits": (plan,), "least_plan": (plan,),
        "is_needed": (plan, waits[0]), "same_runs": (plan, plan), "open_waits": (plan, zero), "most_open": (plan,),
        "busiest_moment": (plan,), "may_share": (plan, waits[0], waits[-1]), "is_flags": (plan, flags),
        "clash": (plan, flags), "fewest_flags": (plan,), "assign_flags": (plan,), "counters": (plan,),
        "steps": (plan, flags), "walk": (plan, flags, [0, 0, 1]), "add_wait": (plan, jobs[0], jobs[-1]),
        "drop_wait": (plan, waits[0]), "mirrored": (plan,), "side_by_side": (plan, plan),
        "check": (("ring", plan, jobs),),
    }


def calls_of_endless_plans(plan):
    """Calls of all functions that take an endless plan, sound or not, or a value."""
    jobs = samples.all_jobs(plan[0])
    waits = plan[1] or (((0, 0), (1, 0), 0),)
    zero, flags = (0,) * len(plan[0]), ((0,),) * len(plan[1])
    tour = tuple(range(len(plan[1])))
    durations = tuple((7,) * size for size in plan[0])
    return {
        "is_endless": (plan,), "links_of": (plan,), "zero_circle": (plan,),
        "is_circle": (plan, [(jobs[0], jobs[0], 1)]), "gap": (plan, jobs[0], jobs[-1]),
        "gap_row": (plan, jobs[0], jobs[-1]), "gap_heights": (plan, jobs[-1], jobs[0]),
        "are_heights": (plan, durations), "is_ahead": (plan, (jobs[0], 1), (jobs[-1], 2)),
        "is_standing": (plan, zero), "finished_rounds": (plan, zero, jobs[0]), "ready_queues": (plan, zero),
        "is_walk": (plan, [0]), "walk_to": (plan, zero), "open_rounds": (plan, zero, waits[0]), "load": (plan, zero),
        "bound_of": (plan, waits[0]), "full_standing": (plan, waits[-1]), "is_needed_wait": (plan, waits[0]),
        "least_endless": (plan,), "parting_standing": (plan, (plan[0], ())), "is_tour": (plan, tour),
        "tour_length": (plan, tour), "shortest_tour": (plan,), "greatest_load": (plan,), "fullest_standing": (plan,),
        "is_turning": (plan, flags), "turning_clash": (plan, flags), "fewest_turning": (plan,),
        "turning_flags": (plan,), "pace": (plan, durations), "critical_circle": (plan, durations),
        "timetable": (plan, durations), "is_timetable": (plan, durations, (7, 1), durations),
        "first_rounds": (plan, 1), "clashing_choices": (plan, flags), "judge": (("clash", plan, flags, zero),),
    }


def all_functions():
    found = {}
    for name, functions in FUNCTIONS.items():
        module = importlib.import_module("flagplans." + name)
        found.update({function: getattr(module, function) for function in functions})
    return found


def outcome_of(function, arguments):
    """What a call returns, or the class of its error and what the error keeps."""
    try:
        return "returned", function(*arguments)
    except PlanError as error:
        return error.__class__.__name__, sorted(vars(error).items())


class WholeProgramTest(unittest.TestCase):
    def all_calls(self):
        functions = all_functions()
        plans = SOUND[:20] + samples.MIXED_PLANS[::6] + samples.RING_PLANS[:2]
        endless = ENDLESS[::9] + endless_samples.STUCK_PLANS[:4]
        calls = []
        for made in [calls_of_plans(plan) for plan in plans] + [calls_of_endless_plans(plan) for plan in endless]:
            calls += [(functions[name], arguments) for name, arguments in made.items()]
        named = set(calls_of_plans(samples.PAIR)) | set(calls_of_endless_plans(endless_samples.PAIR))
        self.assertEqual(named, set(functions))
        return calls

    def test_changed_lists_change_no_later_call_and_no_argument(self):
        calls = self.all_calls()
        before = copy.deepcopy([arguments for _, arguments in calls])
        first = [outcome_of(*call) for call in calls]
        kept = copy.deepcopy(first)
        mutated = 0
        for call in calls:
            for found in lists_in(outcome_of(*call)):
                found.append("more")
                found.reverse()
                mutated += 1
        self.assertGreater(mutated, 200)
        for (function, arguments), result, expected in zip(calls, first, kept):
            self.assertTrue(samples.same_kind(result, expected), function)
            # Equal arguments, not only the same ones, give the same result.
            again = outcome_of(function, copy.deepcopy(arguments))
            self.assertTrue(samples.same_kind(again, expected), function)
        self.assertTrue(samples.same_kind([arguments for _, arguments in calls], before))

    def test_the_order_of_calls_changes_nothing(self):
        calls = self.all_calls()
        expected = [outcome_of(*call) for call in calls]
        numbers = list(range(len(calls)))
        random.Random(1).shuffle(numbers)
        for number in numbers:
            self.assertTrue(samples.same_kind(outcome_of(*calls[number]), expected[number]), calls[number])

    def test_lists_of_objects_are_their_own(self):
        space, mill = Workspace(2), Mill((1, 1))
        for queue in (0, 1):
            space.add_job(queue)
            mill.do(queue)
        space.add_wait((0, 0), (1, 0))
        mill.add_wait((0, 0), (1, 0), 0)
        space.finish((0, 0))
        space.mark()
        mill.mark()
        runner = Runner(endless_samples.PAIR, ((0, 1), (0, 1)))
        for _ in range(4):
            runner.step(0)
        names = {
            space: ("finished", "marks", "ready", "open_waits"), mill: ("turns", "marks", "ready", "opened"),
            runner: ("blocked", "clashing", "up", "turns")}
        told = {(made, name): getattr(made, name)() for made in names for name in names[made]}
        kept = copy.deepcopy(list(told.values()))
        for found in told.values():
            found.append("more")
        self.assertEqual([getattr(made, name)() for made, name in told], kept)


class PlansPromiseTest(unittest.TestCase):
    """Point 3, as far as it speaks of plans that come to an end."""

    def test_a_ring_or_a_run(self):
        for plan in samples.PLANS:
            ring, run = shortest_ring(plan), least_run(plan)
            if ring is None:
                self.assertEqual(check(("run", plan, run)), RIGHT)
            else:
                self.assertIsNone(run)
                self.assertEqual(check(("ring", plan, ring)), RIGHT)

    def test_the_least_waits_are_in_each_set_of_waits_with_the_same_runs(self):
        rng = random.Random(2)
        same = 0
        for plan in SOUND:
            least = least_waits(plan)
            self.assertEqual(check(("least", plan, least)), RIGHT)
            pairs = [(a, b) for a, b in samples.before_pairs(plan) if a[0] != b[0]]
            for _ in range(6):
                drawn = rng.sample(sorted(pairs), rng.randint(0, min(len(pairs), 24)))
                for waits in (drawn, set(drawn) | set(least)):
                    if len(waits) <= 24:
                        other = (plan[0], tuple(sorted(waits)))
                        self.assertIs(same_runs(plan, other), set(least) <= set(waits))
                        same += same_runs(plan, other)
        self.assertGreater(same, 100)

    def test_no_smaller_set_has_the_same_runs(self):
        for plan in SOUND[:40]:
            least = least_waits(plan)
            for waits in combinations(least, max(0, len(least) - 1)):
                if len(waits) < len(least):
                    self.assertGreater(count_runs((plan[0], waits)), count_runs(plan))

    def test_the_fewest_flags_and_the_most_open_waits(self):
        for plan in SOUND + samples.BIG_SOUND_PLANS:
            flags = assign_flags(plan)
            self.assertEqual(check(("fewest", plan, flags, busiest_moment(plan))), RIGHT)
            self.assertEqual(fewest_flags(plan), most_open(plan))
            self.assertEqual(len(set(flags)), fewest_flags(plan))
            self.assertGreaterEqual(fewest_flags(plan), fewest_flags(least_plan(plan)))

    def test_steps_with_clean_flags_allow_only_runs(self):
        rng = random.Random(3)
        for plan in SOUND:
            flags = assign_flags(plan)
            rows = steps(plan, flags)
            choices = []
            while len(choices) < sum(map(len, rows)):
                able = [queue for queue in range(len(rows)) if self.can_go_on(plan, flags, choices, queue)]
                self.assertTrue(able)
                choices.append(rng.choice(able))
            done, up = walk(plan, flags, choices)
            self.assertIs(is_run(plan, done), True)
            self.assertEqual(up, ())

    def can_go_on(self, plan, flags, choices, queue):
        """Whether a queue can carry out its next step; with clean flags it may have ended or be blocked, no more."""
        name, _ = outcome_of(walk, (plan, flags, choices + [queue]))
        self.assertIn(name, ("returned", "Ended", "Blocked"))
        return name == "returned"

    def test_steps_with_clean_flags_allow_all_runs(self):
        for plan in [plan for plan in SOUND if count_runs(plan) <= 12]:
            rows = steps(plan, assign_flags(plan))
            for run in self.all_runs(plan, ()):
                reached = [0] * len(rows)
                choices = []
                for queue, place in run:
                    upto = rows[queue].index(("do", (queue, place))) + 1
                    while upto < len(rows[queue]) and rows[queue][upto][0] == "raise":
                        upto += 1
                    choices += [queue] * (upto - reached[queue])
                    reached[queue] = upto
                self.assertEqual(walk(plan, assign_flags(plan), choices), (run, ()))

    def all_runs(self, plan, begun):
        if len(begun) == sum(plan[0]):
            return [begun]
        pairs = samples.direct_pairs(plan)
        free = [
            job for job in samples.all_jobs(plan[0])
            if job not in begun and all(first in begun for first, second in pairs if second == job)]
        return [run for job in free for run in self.all_runs(plan, (*begun, job))]


class EndlessPromiseTest(unittest.TestCase):
    """Point 3, as far as it speaks of endless plans."""

    def test_a_circle_of_the_distance_0_or_some_queue_is_always_ready(self):
        rng = random.Random(4)
        for plan in endless_samples.PLANS + ENDLESS[::4]:
            circle = zero_circle(plan)
            if circle is not None:
                self.assertEqual(judge(("stuck", plan, circle)), RIGHT)
            else:
                standing = (0,) * len(plan[0])
                for _ in range(20):
                    ready = ready_queues(plan, standing)
                    self.assertTrue(ready)
                    standing = endless_samples.one_more(standing, rng.choice(ready))

    def test_every_gap_is_shown(self):
        for plan in ENDLESS[::6]:
            for first in samples.all_jobs(plan[0]):
                for second in samples.all_jobs(plan[0]):
                    heights, row = gap_heights(plan, first, second), gap_row(plan, first, second)
                    if gap(plan, first, second) is None:
                        self.assertEqual(judge(("apart", plan, first, second, heights)), RIGHT)
                    else:
                        self.assertEqual(judge(("gap", plan, first, second, row, heights)), RIGHT)

    def test_every_wait_reaches_its_bound_or_lies_on_no_circle(self):
        for plan in ENDLESS[::2]:
            for wait in plan[1]:
                back = gap_row(plan, wait[1], wait[0])
                if bound_of(plan, wait) is None:
                    self.assertIsNone(back)
                else:
                    self.assertEqual(judge(("bound", plan, wait, [wait] + back, full_standing(plan, wait))), RIGHT)

    def test_one_least_plan(self):
        for plan in ENDLESS:
            least = least_endless(plan)
            self.assertIsNone(parting_standing(plan, least))
            for wait in plan[1]:
                less = endless_samples.without(plan, wait)
                standing = parting_standing(plan, less)
                self.assertIs(standing is None, wait not in least[1])
                if standing is not None:
                    self.assertEqual(judge(("needed", plan, wait, standing)), RIGHT)
                    self.assertEqual(judge(("parted", plan, less, standing)), RIGHT)

    def test_the_greatest_load_is_the_shortest_tour_and_the_fewest_turning_flags(self):
        for plan in HELD:
            standing, flags = fullest_standing(plan), turning_flags(plan)
            self.assertEqual(judge(("load", plan, shortest_tour(plan), standing)), RIGHT)
            self.assertEqual(judge(("turning", plan, flags, standing)), RIGHT)
            self.assertEqual(fewest_turning(plan), greatest_load(plan))
            self.assertIsNone(clashing_choices(plan, flags))
            self.assertGreaterEqual(fewest_turning(plan), fewest_turning(least_endless(plan)))

    def test_one_flag_less_clashes(self):
        for plan in HELD:
            fewest = fewest_turning(plan)
            if fewest > 1:
                flags = tuple(tuple(flag % (fewest - 1) for flag in row) for row in turning_flags(plan))
                found = turning_clash(plan, flags)
                self.assertIsNotNone(found)
                self.assertEqual(judge(("clash", plan, flags, found[0])), RIGHT)

    def test_queues_with_clean_flags_carry_out_walks(self):
        rng = random.Random(5)
        for plan in HELD[::4]:
            runner = Runner(plan, turning_flags(plan))
            for _ in range(60):
                self.assertEqual(runner.clashing(), [])
                blocked = runner.blocked()
                runner.step(rng.choice([queue for queue in range(len(plan[0])) if queue not in blocked]))
            self.assertIs(is_walk(plan, [job[0] for job, _ in runner.turns()]), True)

    def test_the_pace_is_shown(self):
        rng = random.Random(6)
        for plan in ENDLESS:
            durations = tuple(tuple(rng.randrange(100) for _ in range(size)) for size in plan[0])
            circle, table = critical_circle(plan, durations), timetable(plan, durations)
            self.assertEqual(judge(("pace", plan, durations, circle, table)), RIGHT)


if __name__ == "__main__":
    unittest.main()
