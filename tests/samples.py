"""Plans and other values for the tests, and what the document says of them, worked out as directly as possible."""

import random
from itertools import product

HUGE = 10 ** 5000


def nested(depth, build):
    """A value that is nested so many levels deep."""
    value = build([])
    for _ in range(depth - 1):
        value = build([value])
    return value


# No plan, job, ring, run, moment, wait or flags, whatever the plan (but for () and the like, which some tests leave out).
ODD_VALUES = [
    0, 1, -1, 23, HUGE, -HUGE, True, False, None, "", "a", "ab", "plan", "(0, 0)",
    [], [()], [[]], [0], [0, 0], [(0, 0)], [HUGE, HUGE], [True, False],
    (None,), ("",), ("a", "b"), (None, None), (True, True), (False, False), (HUGE,), (HUGE, HUGE), (-1, 0), (0, -1),
    (0, True), (False, 0), ((), [()]), ([], ()), ((), None), (((),),), ([],), (0, 0, 0, 0, 0, 0),
    ((0, 0), [0, 0]), ([0, 0], (1, 0)), ((0, 0), (0, 0)), ((0, HUGE), (1, 0)), ((HUGE, 0), (1, -HUGE)),
    ((0, 0), (True, 0)), ((0, False), (1, 0)), ((0, 0), "10"), ((0, 0), (1, 0), (2, 0)),
    nested(8, tuple), nested(8, list), nested(7, lambda inner: (0, inner)), nested(7, lambda inner: [inner, HUGE, "x"]),
]


def all_jobs(sizes):
    return [(queue, place) for queue in range(len(sizes)) for place in range(sizes[queue])]


def random_plan(rng, sizes, many, sound=True):
    """A plan with these sizes and at most so many waits; a sound one on request."""
    jobs = all_jobs(sizes)
    # Sorting by these ranks gives a run of the plan, if all waits go from lower to higher ones.
    rank = {}
    left = [list(range(size)) for size in sizes]
    while any(left):
        queue = rng.choice([queue for queue, places in enumerate(left) if places])
        rank[queue, left[queue].pop(0)] = len(rank)
    pairs = [(a, b) for a in jobs for b in jobs if a[0] != b[0] and (not sound or rank[a] < rank[b])]
    return tuple(sizes), tuple(sorted(rng.sample(pairs, min(many, len(pairs)))))


def random_plans(seed, count, smallest, largest, most, sound=True):
    """Random plans with queues of these sizes and at most so many waits."""
    rng = random.Random(seed)
    plans = []
    for _ in range(count):
        sizes = [rng.randint(smallest, largest) for _ in range(rng.randint(1 + min(smallest, 1), 4))]
        plans.append(random_plan(rng, sizes, rng.randint(0, most), sound))
    return plans


PAIR = ((2, 2), (((0, 0), (1, 0)), ((0, 1), (1, 1))))
CROSSED = ((2, 2), (((0, 0), (1, 0)), ((1, 0), (0, 1))))
DOUBLE = ((2, 1), (((0, 0), (1, 0)), ((0, 1), (1, 0))))
SMALL_RING = ((1, 1), (((0, 0), (1, 0)), ((1, 0), (0, 0))))
LATE_RING = ((3, 2, 1), (((0, 2), (1, 1)), ((1, 0), (0, 2)), ((1, 1), (2, 0)), ((2, 0), (0, 2))))
EMPTY = ((0,), ())
WIDE = ((6, 6, 6, 6), ())
FULL_RINGS = random_plan(random.Random(7), (6, 6, 6, 6), 24, sound=False)
FULL = [random_plan(random.Random(seed), (6, 6, 6, 6), 24) for seed in range(4)]
# All its waits are open at one moment.
PARALLEL = ((6, 6, 6, 6), tuple(
    ((queue, place), (queue + 2, place)) for queue in range(2) for place in range(6)))

MOMENTS_500 = ((4, 4, 4, 3), ())
MOMENTS_501 = ((4, 5, 3, 5), (((0, 1), (2, 1)), ((1, 0), (3, 2)), ((1, 0), (3, 4)), ((1, 1), (2, 2))))
MANY_MOMENTS_WITH_RING = ((6, 6, 6, 6), (((0, 5), (1, 5)), ((1, 5), (0, 5))))

SOUND_PLANS = [
    PAIR, CROSSED, DOUBLE, EMPTY, ((0, 0, 0, 0), ()), ((3,), ()), ((0, 2), ()), ((2, 0, 1), (((2, 0), (0, 1)),)),
] + random_plans(1, 20, 0, 3, 6) + random_plans(2, 30, 1, 3, 10) + random_plans(3, 20, 2, 4, 24)
# Some of these are sound, too: what is tested with them tells which.
MIXED_PLANS = random_plans(4, 20, 0, 3, 6, sound=False) + random_plans(5, 30, 2, 4, 6, sound=False)
RING_PLANS = [SMALL_RING, LATE_RING, FULL_RINGS]
PLANS = SOUND_PLANS + MIXED_PLANS + RING_PLANS
BIG_SOUND_PLANS = [WIDE, PARALLEL] + FULL
# Values that look like plans, and are none.
NO_PLANS = [
    (), ((), ()), ((0, 0, 0, 0, 0), ()), ((7,), ()), ((-1,), ()), ((HUGE,), ()), ((True,), ()), ([1, 1], ()),
    ((1, 1), []), [(1, 1), ()], ((1, 1),), ((1, 1), (), ()), ((1, 1), (((0, 0), (0, 0)),)), ((2,), (((0, 0), (0, 1)),)),
    ((1, 1), (((0, 0), (1, 1)),)), ((1, 1), (((0, 0), (2, 0)),)), ((1, 1), (((0, -1), (1, 0)),)),
    ((1, 1), (((-1, 0), (0, 0)),)), ((1, 1), (((0, 0), (True, 0)),)), ((1, 1), (((0, False), (1, 0)),)),
    ((1, 1), (((0, 0), [1, 0]),)), ((1, 1), ([(0, 0), (1, 0)],)), ((1, 1), (((0, 0), (1, 0), 0),)),
    ((1, 1), (((0, 0), (1, 0)), ((0, 0), (1, 0)))), ((1, 1), (((1, 0), (0, 0)), ((0, 0), (1, 0)))),
    ((1, 1), (None,)), ((1, 1), "ab"), ("ab", ()), ((1, "1"), ()), ((1, None), ()), ((1, HUGE), ()),
]


def direct_pairs(plan):
    """The set of all pairs of jobs of which the first is directly before the second (point 5)."""
    ahead = {((q, k - 1), (q, k)) for q, k in all_jobs(plan[0]) if k}
    return ahead | set(plan[1])


def before_pairs(plan):
    """The set of all pairs of jobs between which a row leads from the first to the second."""
    jobs = all_jobs(plan[0])
    pairs = direct_pairs(plan)
    for middle in jobs:
        into = [a for a in jobs if (a, middle) in pairs]
        out = [b for b in jobs if (middle, b) in pairs]
        pairs |= {(a, b) for a in into for b in out}
    return pairs


def least_waits(plan):
    """All pairs of jobs of different queues, one before the other, without a job between them (point 7)."""
    before = before_pairs(plan)
    jobs = all_jobs(plan[0])
    return tuple(sorted(
        (a, b) for a, b in before
        if a[0] != b[0] and not any((a, job) in before and (job, b) in before for job in jobs)))


def without(plan, wait):
    """The plan without a wait."""
    return plan[0], tuple(other for other in plan[1] if other != wait)


def has_ring(plan):
    return any(first == second for first, second in before_pairs(plan))


def can_be_arranged(finished, pairs):
    """Whether the set of jobs has, each time, a job of which nothing directly before it is left (point 6)."""
    left = set(finished)
    if any(second in left and first not in left for first, second in pairs):
        return False
    while left:
        free = left - {second for first, second in pairs if first in left}
        if not free:
            return False
        left -= free
    return True


def possible_moments(plan):
    """The ascending list of the possible moments, from the definition."""
    pairs = direct_pairs(plan)
    found = []
    for moment in product(*[range(size + 1) for size in plan[0]]):
        if can_be_arranged(all_jobs(moment), pairs):
            found.append(moment)
    return found


def finished_at(moment, job):
    return job[1] < moment[job[0]]


def open_at(plan, moment):
    """The list of the waits that are open at a moment (point 8)."""
    return [(a, b) for a, b in plan[1] if finished_at(moment, a) and not finished_at(moment, b)]


def are_flags(plan, value):
    """Whether the value is flags for the plan (point 9)."""
    if type(value) is not tuple or len(value) != len(plan[1]):
        return False
    return all(type(flag) is int and flag in range(24) for flag in value)


def clashes_at(plan, flags, moment):
    """Whether two different waits that are open at a moment have the same flag (point 9)."""
    flag_of = dict(zip(plan[1], flags))
    used = [flag_of[wait] for wait in open_at(plan, moment)]
    return len(set(used)) < len(used)


def variants(value):
    """Values that are like the value, but changed at one place: kinds, entries and order."""
    if isinstance(value, bool) or value is None:
        return [0]
    if isinstance(value, int):
        return [value + 1, value - 1, -1, HUGE, bool(value), None, str(value), (value,), [value]]
    if not isinstance(value, (tuple, list)):
        return []
    kind, other = (tuple, list) if isinstance(value, tuple) else (list, tuple)
    entries = list(value)
    changed = [other(entries), None, 0, "", kind(entries + [0]), kind(entries[::-1]), kind(entries + entries)]
    for k, entry in enumerate(entries):
        changed.append(kind(entries[:k] + entries[k + 1:]))
        changed.append(kind(entries[:k] + [entry] + entries[k:]))
        if k:
            changed.append(kind(entries[:k - 1] + [entry, entries[k - 1]] + entries[k + 1:]))
        changed.extend(kind(entries[:k] + [new] + entries[k + 1:]) for new in variants(entry))
    return changed


def same_kind(value, other):
    """Whether two values are equal and of the same kinds throughout (True equals 1, but is no integer)."""
    if type(value) is not type(other):
        return False
    if isinstance(value, (tuple, list)):
        return len(value) == len(other) and all(same_kind(a, b) for a, b in zip(value, other))
    return value == other


def is_one_of(value, others):
    return any(same_kind(value, other) for other in others)
