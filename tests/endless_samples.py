"""Endless plans for the tests, and what the document says of them, worked out as directly as possible."""

import random
from functools import lru_cache
from math import lcm

from samples import HUGE, all_jobs, is_one_of


def queue_links(sizes):
    """The links from each job to the next one of its queue, and from the last one to the first one (point 18)."""
    found = []
    for queue, size in enumerate(sizes):
        found += [((queue, place), (queue, place + 1), 0) for place in range(size - 1)]
        found.append(((queue, size - 1), (queue, 0), 1))
    return found


def all_links(plan):
    return queue_links(plan[0]) + list(plan[1])


def has_zero_circle(plan):
    """Whether jobs are left when, again and again, those go to which no link of the distance 0 leads from one left."""
    left = set(all_jobs(plan[0]))
    ties = [(first, second) for first, second, distance in all_links(plan) if distance == 0]
    while True:
        free = left - {second for first, second in ties if first in left}
        if not free:
            return bool(left)
        left -= free


def random_endless(rng, sizes, many, distances=(0, 1, 2, 3)):
    """An endless plan, sound or not, with at most so many waits."""
    jobs = all_jobs(sizes)
    waits = [(a, b, d) for a in jobs for b in jobs if a[0] != b[0] for d in distances]
    return tuple(sizes), tuple(sorted(rng.sample(waits, min(many, len(waits)))))


def random_plans(seed, count, largest, most, distances=(0, 1, 2, 3)):
    """Random endless plans with queues of at most so many jobs and at most so many waits."""
    rng = random.Random(seed)
    plans = []
    for _ in range(count):
        sizes = [rng.randint(1, largest) for _ in range(rng.randint(1, 4))]
        plans.append(random_endless(rng, sizes, rng.randint(0, most), distances))
    return plans


PAIR = ((1, 1), (((0, 0), (1, 0), 0), ((1, 0), (0, 0), 2)))
LINE = ((2, 1), (((0, 1), (1, 0), 0), ((1, 0), (0, 0), 1)))
SINGLE = ((1,), ())
APART = ((2, 3, 1), (((0, 1), (1, 0), 0),))
# The gap from the job (0, 1) to the job (3, 2) is 13: the greatest one that four queues of four jobs can have.
FAR = ((4, 4, 4, 4), (((0, 0), (1, 3), 3), ((1, 0), (2, 3), 3), ((2, 0), (3, 3), 3)))
TWO_JOBS_STUCK = ((1, 1), (((0, 0), (1, 0), 0), ((1, 0), (0, 0), 0)))
LATE_STUCK = ((3, 2, 4), (
    ((0, 1), (1, 0), 0), ((0, 1), (1, 0), 1), ((1, 1), (2, 2), 0), ((2, 0), (0, 0), 3), ((2, 3), (0, 0), 0)))

MIXED_PLANS = (
    random_plans(1, 60, 2, 5) + random_plans(2, 40, 4, 12) + random_plans(3, 40, 4, 12, (0, 1)) +
    random_plans(4, 40, 4, 5, (0,)) + random_plans(5, 20, 4, 12, (1, 2, 3)))
SOUND_PLANS = [PAIR, LINE, SINGLE, APART, FAR, ((4, 4, 4, 4), ()), ((1, 1, 1, 1), ())] + [
    plan for plan in MIXED_PLANS if not has_zero_circle(plan)]
STUCK_PLANS = [TWO_JOBS_STUCK, LATE_STUCK] + [plan for plan in MIXED_PLANS if has_zero_circle(plan)][:20]
PLANS = SOUND_PLANS + STUCK_PLANS
SMALL_PLANS = [plan for plan in PLANS if sum(plan[0]) <= 6 and len(plan[1]) <= 6]
SMALL_SOUND_PLANS = [plan for plan in SMALL_PLANS if plan in SOUND_PLANS]

WAIT = ((0, 0), (1, 0), 0)
# Values that look like endless plans, and are none.
NO_PLANS = [
    (), ((), ()), ((1, 1, 1, 1, 1), ()), ((0,), ()), ((5,), ()), ((1, 0), ()), ((1, 5), ()), ((-1,), ()), ((True,), ()),
    ((1, True), ()), ((HUGE,), ()), ((None,), ()), (("1",), ()), ([1, 1], ()), ((1, 1), []), [(1, 1), ()],
    ((1, 1),), ((1, 1), (), ()), (1, ()), ("ab", ()), ((1, 1), "ab"), ((1, 1), None), ((1, 1), (None,)),
    ((1, 1), ((),)), ((1, 1), (((0, 0), (1, 0)),)), ((1, 1), (((0, 0), (1, 0), 0, 0),)),
    ((1, 1), (((0, 0), (1, 0), -1),)), ((1, 1), (((0, 0), (1, 0), 4),)), ((1, 1), (((0, 0), (1, 0), HUGE),)),
    ((1, 1), (((0, 0), (1, 0), False),)), ((1, 1), (((0, 0), (1, 0), True),)), ((1, 1), (((0, 0), (1, 0), None),)),
    ((1, 1), (((0, 0), (1, 0), "0"),)), ((1, 1), (((0, 0), (0, 0), 1),)), ((2,), (((0, 0), (0, 1), 1),)),
    ((1, 1), (((0, 0), (1, 1), 0),)), ((1, 1), (((0, 0), (2, 0), 0),)), ((1, 1), (((0, -1), (1, 0), 0),)),
    ((1, 1), (((0, 0), (True, 0), 0),)), ((1, 1), (((0, False), (1, 0), 0),)), ((1, 1), ([(0, 0), (1, 0), 0],)),
    ((1, 1), (((0, 0), [1, 0], 0),)), ((1, 1), (((0, 0, 0), (1, 0), 0),)), ((1, 1), (WAIT, WAIT)),
    ((1, 1), (((0, 0), (1, 0), 1), WAIT)), ((1, 1), (((1, 0), (0, 0), 0), WAIT)), ((1, 1), [WAIT]),
]


def is_tuple_of(value, least, most):
    return type(value) is tuple and least <= len(value) <= most


def is_endless(value):
    """Whether a value is an endless plan, one condition of the point after the other."""
    if not is_tuple_of(value, 2, 2):
        return False
    sizes, waits = value
    if not is_tuple_of(sizes, 1, 4) or not all(type(size) is int and 1 <= size <= 4 for size in sizes):
        return False
    if not is_tuple_of(waits, 0, 12):
        return False
    jobs = all_jobs(sizes)
    for wait in waits:
        if not is_tuple_of(wait, 3, 3) or type(wait[2]) is not int or wait[2] not in (0, 1, 2, 3):
            return False
        if not is_one_of(wait[0], jobs) or not is_one_of(wait[1], jobs) or wait[0][0] == wait[1][0]:
            return False
    return list(waits) == sorted(set(waits))


def is_link(plan, value):
    """Whether a value is a link of the plan, with integers throughout."""
    if type(value) is not tuple or len(value) != 3 or type(value[2]) is not int:
        return False
    for job in value[:2]:
        if type(job) is not tuple or [type(number) for number in job] != [int, int]:
            return False
    return value in all_links(plan)


def is_row(plan, value, first, second):
    """Whether a value is a row of links that leads from the first job to the second one."""
    if type(value) is not list or not all(is_link(plan, link) for link in value):
        return False
    job = first
    for link in value:
        if link[0] != job:
            return False
        job = link[1]
    return job == second


def is_circle(plan, value):
    """Whether a value is a circle of the plan (point 18)."""
    if type(value) is not list or not value or not is_link(plan, value[0]):
        return False
    if not is_row(plan, value, value[0][0], value[0][0]):
        return False
    return len({link[0] for link in value}) == len(value)


def circles_of(plan):
    """All circles of a small plan, each as often as it has links, from each of them on."""
    links = all_links(plan)
    found = []
    rows = [[link] for link in links]
    while rows:
        found += [row for row in rows if row[-1][1] == row[0][0]]
        rows = [row + [link] for row in rows for link in links if row[-1][1] == link[0]]
        rows = [row for row in rows if len({link[0] for link in row}) == len(row)]
    return found


def gap_table(plan):
    """A dict from each pair of jobs to the least distance of a row between them; pairs without one are left out."""
    jobs = all_jobs(plan[0])
    least = {(job, job): 0 for job in jobs}
    for first, second, distance in all_links(plan):
        least[first, second] = min(distance, least.get((first, second), distance))
    for middle in jobs:
        for first in jobs:
            for second in jobs:
                if (first, middle) in least and (middle, second) in least:
                    through = least[first, middle] + least[middle, second]
                    least[first, second] = min(through, least.get((first, second), through))
    return least


def has_an_integer_for_each_job(plan, value):
    """Whether a value is a tuple with a tuple for each queue, with an integer for each of its jobs."""
    if type(value) is not tuple or len(value) != len(plan[0]):
        return False
    return all(
        type(row) is tuple and len(row) == size and all(type(entry) is int for entry in row)
        for row, size in zip(value, plan[0]))


def are_heights(plan, value):
    """Whether a value is heights of the plan (point 19)."""
    if not has_an_integer_for_each_job(plan, value):
        return False
    return all(value[b[0]][b[1]] - value[a[0]][a[1]] <= distance for a, b, distance in all_links(plan))


def turns_of(sizes, standing):
    """The set of the turns that are finished at a standing, each queue doing all its jobs round by round."""
    found = set()
    for queue, many in enumerate(standing):
        for number in range(many):
            found.add(((queue, number % sizes[queue]), number // sizes[queue]))
    return found


def turns_ahead(plan, turn):
    """The set of all turns that must be finished before a turn begins, by what the links mean (point 18)."""
    found = set()
    waiting = [turn]
    while waiting:
        job, number = waiting.pop()
        for first, second, distance in all_links(plan):
            if second == job and number >= distance and (first, number - distance) not in found:
                found.add((first, number - distance))
                waiting.append((first, number - distance))
    return found


def is_finished(sizes, standing, turn):
    """Whether a turn is finished at a standing: as the turn number so and so of its queue, counted from 0."""
    (queue, place), number = turn
    return number * sizes[queue] + place < standing[queue]


def may_begin(plan, standing, turn):
    """Whether all turns are finished at a standing that a link names for this turn."""
    job, number = turn
    ahead = [(first, number - distance) for first, second, distance in all_links(plan) if second == job]
    return all(is_finished(plan[0], standing, (first, late)) for first, late in ahead if late >= 0)


def is_possible(plan, standing):
    """Whether no turn is finished at a standing that a link lets begin later only (points 18 and 20)."""
    return all(may_begin(plan, standing, turn) for turn in turns_of(plan[0], standing))


def is_standing(plan, value):
    """Whether a value, in which no number is great, is a possible standing of the plan."""
    if type(value) is not tuple or len(value) != len(plan[0]):
        return False
    if not all(type(many) is int and many >= 0 for many in value):
        return False
    return is_possible(plan, value)


def ready_at(plan, standing):
    """The ascending list of the queues whose next turn may begin at a possible standing."""
    found = []
    for queue, size in enumerate(plan[0]):
        if may_begin(plan, standing, ((queue, standing[queue] % size), standing[queue] // size)):
            found.append(queue)
    return found


def one_more(standing, queue):
    """The standing with one more turn of a queue."""
    return tuple(many + (number == queue) for number, many in enumerate(standing))


def random_walk(rng, plan, many, queues=(0, 1, 2, 3)):
    """A walk of these queues with so many turns, or fewer, if none of them is ready any more, and where it leads to."""
    walk = []
    standing = (0,) * len(plan[0])
    while len(walk) < many:
        ready = [queue for queue in ready_at(plan, standing) if queue in queues]
        if not ready:
            break
        walk.append(rng.choice(ready))
        standing = one_more(standing, walk[-1])
    return walk, standing


def walks(seed, plans, lengths):
    """Some walks of each plan, with the standings to which they lead."""
    rng = random.Random(seed)
    return [(plan, *random_walk(rng, plan, many)) for plan in plans for many in lengths]


def open_rounds(plan, standing, wait):
    """The rounds in which a wait is open at a standing, each looked at (point 21)."""
    first, second, distance = wait
    return [
        number for number in range(standing[first[0]] + 1)
        if is_finished(plan[0], standing, (first, number))
        and not is_finished(plan[0], standing, (second, number + distance))]


def load(plan, standing):
    """The load of a standing."""
    return sum(len(open_rounds(plan, standing, wait)) for wait in plan[1])


def rows_within(plan, start, most):
    """All (job, distance, number of links up to 2) to which rows of at most this distance lead from a job."""
    found = {(start, 0, 0)}
    waiting = list(found)
    while waiting:
        job, distance, many = waiting.pop()
        for first, second, more in all_links(plan):
            reached = (second, distance + more, min(many + 1, 2))
            if first == job and distance + more <= most and reached not in found:
                found.add(reached)
                waiting.append(reached)
    return found


def is_needless(plan, wait):
    """Whether a row of two links or more leads as far as the wait, or less far (point 22)."""
    return any(
        job == wait[1] and many == 2 for job, distance, many in rows_within(plan, wait[0], wait[2]))


def least_plan(plan):
    """The plan with just the waits that are not needless."""
    return plan[0], tuple(wait for wait in plan[1] if not is_needless(plan, wait))


def flag_of(flags, number, turn_round):
    """The flag of the wait with this number in a round."""
    row = flags[number]
    return row[turn_round % len(row)]


@lru_cache(maxsize=None)
def ahead_of_opening(plan, rounds):
    """For each (number of a wait, round): all turns that are finished wherever the wait is open in the round."""
    found = {}
    for number, (first, _, _) in enumerate(plan[1]):
        for turn_round in range(rounds):
            turn = (first, turn_round)
            found[number, turn_round] = turns_ahead(plan, turn) | {turn}
    return found


def has_clash(plan, flags):
    """Whether two waits, or one in two rounds, can be open together with one flag, by what the links mean.

    They can be exactly if what must be finished for the two openings does not close one of them. In the rounds that are
    looked at, short rows come to stand beside each other in all ways, and farther apart than any gap.
    """
    rounds = lcm(*[len(row) for row in flags]) + 16
    ahead = ahead_of_opening(plan, rounds)
    closing = {
        (number, turn_round): (second, turn_round + distance)
        for number, (_, second, distance) in enumerate(plan[1]) for turn_round in range(rounds)}
    for one in ahead:
        for other in ahead:
            if one < other and flag_of(flags, *one) == flag_of(flags, *other):
                if all(closing[opened] not in ahead[turn] for opened in (one, other) for turn in (one, other)):
                    return True
    return False


def first_not_held(plan):
    """The first wait of a plan that lies on no circle, or None."""
    table = gap_table(plan)
    return next((wait for wait in plan[1] if (wait[1], wait[0]) not in table), None)


def length_of(plan, table, order):
    """The sum of the distances and of the gaps to the waits that follow, or None if a row is missing (point 23)."""
    total = 0
    for number, following in enumerate(order):
        wait, other = plan[1][number], plan[1][following]
        if (wait[1], other[0]) not in table:
            return None
        total += wait[2] + table[wait[1], other[0]]
    return total


def is_tour(plan, table, value):
    """Whether a value is a tour of the plan with these gaps (point 23)."""
    if type(value) is not tuple or not all(type(number) is int for number in value):
        return False
    if sorted(value) != list(range(len(plan[1]))):
        return False
    return length_of(plan, table, value) is not None


@lru_cache(maxsize=None)
def shortest_length(plan):
    """The length of a shortest tour of a held plan: what follows the first waits may be any set of as many waits."""
    table = gap_table(plan)
    least = {frozenset(): 0}
    for first, second, distance in plan[1]:
        longer = {}
        for taken, length in least.items():
            for number, other in enumerate(plan[1]):
                if number not in taken and (second, other[0]) in table:
                    more = length + distance + table[second, other[0]]
                    longer[taken | {number}] = min(more, longer.get(taken | {number}, more))
        least = longer
    return min(least.values())


def held_part(plan):
    """The plan with those of its waits that are held."""
    table = gap_table(plan)
    return plan[0], tuple(wait for wait in plan[1] if (wait[1], wait[0]) in table)


def is_turning(plan, value):
    """Whether a value is turning flags for the plan (point 24)."""
    if type(value) is not tuple or len(value) != len(plan[1]):
        return False
    for row in value:
        if type(row) is not tuple or not 1 <= len(row) <= 500:
            return False
        if not all(type(flag) is int and 0 <= flag <= 499 for flag in row):
            return False
    return True


def random_sound(rng, sizes, many, distances=(0, 1, 2, 3)):
    """A sound endless plan with at most so many waits: those with the distance 0 lead from lower to higher ranks."""
    rank = {}
    left = [list(range(size)) for size in sizes]
    while any(left):
        queue = rng.choice([queue for queue, places in enumerate(left) if places])
        rank[queue, left[queue].pop(0)] = len(rank)
    waits = [
        (a, b, d) for a in rank for b in rank for d in distances
        if a[0] != b[0] and (d > 0 or rank[a] < rank[b])]
    return tuple(sizes), tuple(sorted(rng.sample(waits, min(many, len(waits)))))


def random_sounds(seed, count, queues, largest, waits, distances=(0, 1, 2, 3)):
    """Random sound plans with so many queues of at most so many jobs, and with so many waits, if they exist."""
    rng = random.Random(seed)
    plans = []
    for _ in range(count):
        sizes = [rng.randint(1, largest) for _ in range(rng.choice(queues))]
        plans.append(random_sound(rng, sizes, rng.choice(waits), distances))
    return plans


def without(plan, wait):
    """The plan without a wait."""
    return plan[0], tuple(other for other in plan[1] if other != wait)


# Two queues that go round together, and a third one that they stay ahead of, or that goes on alone.
NOT_HELD = ((1, 2, 1), (((0, 0), (1, 0), 0), ((0, 0), (2, 0), 1), ((1, 1), (0, 0), 1)))
# Two pairs of queues that do not wait for each other.
TWO_PAIRS = ((1, 1, 1, 1), (
    ((0, 0), (1, 0), 0), ((1, 0), (0, 0), 2), ((2, 0), (3, 0), 1), ((3, 0), (2, 0), 1)))
# Two queues in which every job waits for one of the other queue.
CROSSED = ((2, 2), (((0, 0), (1, 1), 0), ((0, 1), (1, 0), 1), ((1, 0), (0, 1), 1), ((1, 1), (0, 0), 3)))
SOUNDS = (
    random_sounds(21, 60, (2, 3), 2, (1, 2, 3, 4, 5, 6)) + random_sounds(22, 40, (2, 3, 4), 4, (4, 6, 8, 10, 12)) +
    random_sounds(23, 30, (2, 3), 2, (2, 3, 4), (0, 1)) + random_sounds(24, 10, (2,), 1, (4, 5, 6)))
HELD_PLANS = [SINGLE, ((2, 3), ()), PAIR, LINE, TWO_PAIRS, CROSSED] + [
    plan for plan in map(held_part, SOUNDS) if plan[1]]
NOT_HELD_PLANS = [NOT_HELD, APART] + [plan for plan in SOUNDS if first_not_held(plan) is not None]
SMALL_HELD_PLANS = [plan for plan in HELD_PLANS if sum(plan[0]) <= 5 and len(plan[1]) <= 5]
