"""Endless plans: queues that begin anew for ever, their links, and their circles."""

from flagplans.order import shortest_ring
from flagplans.plans import MOST_QUEUES, can_wait, has_job, is_below, is_int, is_pair, jobs_of
from flagplans.wrongs import InvalidEndless, Stuck

MOST_ROUND_JOBS = 4
MOST_ENDLESS_WAITS = 12
MOST_DISTANCE = 3


def is_from_0_on(value):
    """Return True for an integer that is not negative."""
    return is_int(value) and value >= 0


def is_triple(value):
    """Return True for a tuple with three entries."""
    return isinstance(value, tuple) and len(value) == 3


def are_endless_sizes(value):
    """Return True if the value, any value, can be the sizes of an endless plan."""
    if not isinstance(value, tuple) or not 1 <= len(value) <= MOST_QUEUES:
        return False
    return all(is_below(size, MOST_ROUND_JOBS + 1) and size > 0 for size in value)


def can_wait_endlessly(sizes, value):
    """Return True if the value, any value, can be a wait of an endless plan with these sizes."""
    return is_triple(value) and can_wait(sizes, value[:2]) and is_below(value[2], MOST_DISTANCE + 1)


def are_endless_waits(sizes, value):
    """Return True if the value, any value, can be the waits of an endless plan with these sizes."""
    if not isinstance(value, tuple) or len(value) > MOST_ENDLESS_WAITS:
        return False
    if not all(can_wait_endlessly(sizes, wait) for wait in value):
        return False
    return all([wait < other for wait, other in zip(value, value[1:])])


def is_endless(value):
    """Return True if the value, any value, is an endless plan, sound or not."""
    return is_pair(value) and are_endless_sizes(value[0]) and are_endless_waits(value[0], value[1])


def check_endless(value):
    """Raise InvalidEndless if the value, any value, is not an endless plan."""
    if not is_endless(value):
        raise InvalidEndless("not an endless plan")


def link_behind(sizes, job):
    """Return the link from a job to the next one of its queue, or from the last one to the first one."""
    queue, place = job
    if place + 1 < sizes[queue]:
        return job, (queue, place + 1), 0
    return job, (queue, 0), 1


def links_of(plan):
    """Return the ascending list of the links of an endless plan."""
    check_endless(plan)
    sizes, waits = plan
    return sorted([link_behind(sizes, job) for job in jobs_of(sizes)] + list(waits))


def is_link(sizes, links, value):
    """Return True if the value, any value, is one of these links between jobs of queues with these sizes."""
    # True equals 1, so that a look into the links alone would take a bool for a number.
    if not is_triple(value) or not has_job(sizes, value[0]) or not has_job(sizes, value[1]):
        return False
    return is_int(value[2]) and value in links


def is_circle(plan, value):
    """Return True if the value, any value, is a circle of the endless plan."""
    links = links_of(plan)
    if not isinstance(value, list) or not value:
        return False
    if not all(is_link(plan[0], links, link) for link in value):
        return False
    starts = [link[0] for link in value]
    ends = [link[1] for link in value]
    return ends == starts[1:] + starts[:1] and len(set(starts)) == len(starts)


def zero_circle(plan):
    """Return a circle of the endless plan with the distance 0, or None if there is none."""
    check_endless(plan)
    sizes, waits = plan
    # The links with the distance 0 say for one round what the order of a plan says.
    ring = shortest_ring((sizes, tuple([(first, second) for first, second, distance in waits if distance == 0])))
    if ring is None:
        return None
    return [(job, other, 0) for job, other in zip(ring, ring[1:] + ring[:1])]


def check_unstuck(value):
    """Raise InvalidEndless if the value, any value, is not an endless plan, and Stuck if it is not a sound one."""
    circle = zero_circle(value)
    if circle is not None:
        raise Stuck(circle)
