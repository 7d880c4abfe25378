import random
import unittest
from itertools import combinations, permutations

import samples
from checks import RIGHT, FunctionTest, first_fault, wrong
from flagplans.checker import check
from flagplans.errors import InvalidPlan, NotACertificate
from flagplans.fewest import assign_flags
from flagplans.flagging import clash
from flagplans.least import least_waits
from flagplans.opening import busiest_moment
from flagplans.order import shortest_ring
from flagplans.runs import least_run

LENGTHS = {"ring": 3, "run": 3, "least": 3, "clash": 4, "fewest": 4}
SOME_PLANS = samples.SOUND_PLANS[:30] + samples.MIXED_PLANS[:20] + samples.RING_PLANS


def are_jobs(plan, value):
    """Whether a row has jobs of the plan only, each once at most."""
    jobs = samples.all_jobs(plan[0])
    return all(samples.is_one_of(job, jobs) for job in value) and len(set(value)) == len(value)


def is_ring(plan, value):
    if type(value) is not list or len(value) < 2 or not are_jobs(plan, value):
        return False
    return set(zip(value, value[1:] + value[:1])) <= samples.direct_pairs(plan)


def is_run(plan, value):
    if type(value) is not tuple or not are_jobs(plan, value) or len(value) != sum(plan[0]):
        return False
    return all(value.index(first) < value.index(second) for first, second in samples.direct_pairs(plan))


def by_point_16(certificate):
    kind, plan, *rest = certificate
    if kind == "ring":
        return first_fault(lambda: is_ring(plan, rest[0]))
    if kind == "run":
        return first_fault(lambda: is_run(plan, rest[0]))
    if kind == "least":
        thinner = (plan[0], rest[0])
        return first_fault(
            lambda: not samples.has_ring(plan) and type(rest[0]) is tuple and all(
                samples.is_one_of(wait, plan[1]) for wait in rest[0]) and rest[0] == tuple(sorted(set(rest[0]))),
            lambda: samples.before_pairs(plan) == samples.before_pairs(thinner),
            lambda: all(
                samples.before_pairs(samples.without(thinner, wait)) != samples.before_pairs(plan)
                for wait in rest[0]))
    flags, moment = rest
    moments = samples.possible_moments(plan)
    in_form = samples.are_flags(plan, flags) and samples.is_one_of(moment, moments)
    if kind == "clash":
        return first_fault(lambda: in_form, lambda: samples.clashes_at(plan, flags, moment))
    return first_fault(
        lambda: in_form and not samples.has_ring(plan),
        lambda: not any(samples.clashes_at(plan, flags, other) for other in moments),
        lambda: len(samples.open_at(plan, moment)) == len(set(flags)))


class CheckTest(FunctionTest):
    def check_one(self, *certificate):
        """The checker says of a certificate just what point 16 says. Returns what it says."""
        result = check(certificate)
        self.assertTrue(samples.same_kind(result, by_point_16(certificate)), certificate)
        return result

    def test_rings(self):
        for plan in SOME_PLANS:
            jobs = samples.all_jobs(plan[0])
            self.check_one("ring", plan, [])
            for many in range(1, 4):
                for row in list(permutations(jobs, many))[:300]:
                    self.check_one("ring", plan, list(row))
            ring = shortest_ring(plan)
            if ring is not None:
                self.assertEqual(self.call(check, ("ring", plan, ring)), RIGHT)
                for value in samples.variants(ring):
                    self.check_one("ring", plan, value)

    def test_runs(self):
        for plan in SOME_PLANS:
            run = least_run(plan)
            if run is None:
                run = tuple(samples.all_jobs(plan[0]))
                self.assertEqual(check(("run", plan, run)), wrong(0))
            else:
                self.assertEqual(self.call(check, ("run", plan, run)), RIGHT)
            for value in samples.variants(run):
                self.check_one("run", plan, value)

    def test_least_waits(self):
        for plan in samples.SOUND_PLANS + samples.FULL[:1]:
            least = least_waits(plan)
            self.assertEqual(self.call(check, ("least", plan, least)), RIGHT)
            for wait in least:
                self.assertEqual(check(("least", plan, samples.without((None, least), wait)[1])), wrong(1))
            for wait in set(plan[1]) - set(least):
                self.assertEqual(check(("least", plan, tuple(sorted(least + (wait,))))), wrong(2))
            if len(plan[1]) > len(least):
                self.assertEqual(check(("least", plan, plan[1])), wrong(2))

    def test_all_parts_of_the_waits(self):
        for plan in samples.SOUND_PLANS:
            if len(plan[1]) <= 6:
                for many in range(len(plan[1]) + 1):
                    for waits in combinations(plan[1], many):
                        self.check_one("least", plan, waits)

    def test_changed_least_waits(self):
        for plan in SOME_PLANS:
            for waits in (plan[1], samples.least_waits(plan)):
                for value in samples.variants(waits)[:400]:
                    self.check_one("least", plan, value)

    def test_least_waits_of_plans_with_rings(self):
        for plan in samples.RING_PLANS:
            for waits in (plan[1], (), plan[1][:1]):
                self.assertEqual(check(("least", plan, waits)), wrong(0))

    def test_waits_that_the_plan_has_not(self):
        plan = ((2, 2), (((0, 0), (1, 1)),))
        self.assertEqual(check(("least", plan, plan[1])), RIGHT)
        self.assertEqual(check(("least", plan, (((0, 0), (1, 0)),))), wrong(0))
        self.assertEqual(check(("least", plan, plan[1] + plan[1])), wrong(0))
        self.assertEqual(check(("least", plan, ())), wrong(1))

    def test_clashes(self):
        rng = random.Random(1)
        for plan in SOME_PLANS:
            many = len(plan[1])
            moments = samples.possible_moments(plan)
            for different in (1, 2, 24):
                flags = tuple(rng.randrange(different) for _ in range(many))
                for moment in rng.sample(moments, min(len(moments), 12)):
                    self.check_one("clash", plan, flags, moment)
                    self.check_one("fewest", plan, flags, moment)
                if not samples.has_ring(plan) and clash(plan, flags) is not None:
                    self.assertEqual(self.call(check, ("clash", plan, flags, clash(plan, flags))), RIGHT)

    def test_clashes_in_plans_with_rings(self):
        plan = ((3, 3), (((0, 0), (1, 2)), ((0, 1), (1, 2)), ((0, 2), (1, 1)), ((1, 1), (0, 2))))
        self.assertEqual(self.check_one("clash", plan, (3, 3, 0, 0), (2, 1)), RIGHT)
        self.assertEqual(self.check_one("clash", plan, (3, 3, 0, 0), (1, 1)), wrong(1))
        self.assertEqual(self.check_one("clash", plan, (3, 3, 0, 0), (2, 3)), wrong(0))
        self.assertEqual(self.check_one("fewest", plan, (0, 1, 2, 3), (2, 1)), wrong(0))

    def test_fewest_flags(self):
        for plan in samples.SOUND_PLANS + samples.BIG_SOUND_PLANS:
            flags = assign_flags(plan)
            moment = busiest_moment(plan)
            self.assertEqual(self.call(check, ("fewest", plan, flags, moment)), RIGHT)
            if plan[1]:
                self.assertEqual(check(("fewest", plan, flags, (0,) * len(plan[0]))), wrong(2))
                self.assertEqual(check(("fewest", plan, flags, plan[0])), wrong(2))
            if len(set(flags)) > 1:
                self.assertEqual(check(("fewest", plan, (5,) * len(flags), moment)), wrong(1))
            if len(set(flags)) < len(flags):
                self.assertEqual(check(("fewest", plan, tuple(range(len(flags))), moment)), wrong(2))

    def test_changed_flags_and_moments(self):
        for plan in SOME_PLANS[::2]:
            flags = tuple(range(len(plan[1])))
            moment = samples.possible_moments(plan)[-1]
            for kind in ("clash", "fewest"):
                for value in samples.variants(flags):
                    self.check_one(kind, plan, value, moment)
                for value in samples.variants(moment):
                    self.check_one(kind, plan, flags, value)

    def test_any_value_for_the_other_entries(self):
        for plan in SOME_PLANS[::4]:
            flags = tuple(range(len(plan[1])))
            for value in samples.ODD_VALUES + [(), plan, plan[0], plan[1], flags]:
                for kind, length in LENGTHS.items():
                    certificate = (kind, plan) + (value,) * (length - 2)
                    self.assertTrue(samples.same_kind(self.call(check, certificate), by_point_16(certificate)))
                self.check_one("fewest", plan, flags, value)
                self.check_one("clash", plan, value, plan[0])

    def test_values_that_are_no_certificates(self):
        plan = samples.PAIR
        for kind, length in LENGTHS.items():
            for many in range(7):
                if many != length - 1:
                    self.check_raises(NotACertificate, check, (kind,) + (plan,) * many)
                    self.check_raises(NotACertificate, check, (kind,) + (None,) * many)
            for first in (kind.upper(), kind + " ", "", None, 0, True, (kind,), [kind], [], samples.HUGE, plan, {}):
                self.check_raises(NotACertificate, check, (first, plan) + (None,) * (length - 2))
                self.check_raises(NotACertificate, check, (first,))
            self.check_raises(NotACertificate, check, [kind, plan] + [None] * (length - 2))
            self.check_raises(NotACertificate, check, kind)
        for value in samples.ODD_VALUES + samples.NO_PLANS + samples.PLANS + [(), ("right",), ("wrong", 0)]:
            self.check_raises(NotACertificate, check, value)

    def test_then_values_that_are_no_plans(self):
        for value in samples.ODD_VALUES + samples.NO_PLANS:
            for kind, length in LENGTHS.items():
                self.check_raises(InvalidPlan, check, (kind, value) + ((),) * (length - 2))
                self.check_raises(InvalidPlan, check, (kind,) + (value,) * (length - 1))


if __name__ == "__main__":
    unittest.main()
