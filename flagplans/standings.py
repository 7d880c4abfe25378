"""Standings of sound endless plans: so many turns of each queue are finished. And the walks that lead to them."""

from flagplans.endless import check_unstuck, is_from_0_on
from flagplans.plans import check_job, is_below
from flagplans.wrongs import InvalidStanding


def first_standing(sizes):
    """Return the standing at which no turn is finished."""
    return (0,) * len(sizes)


def standing_behind(standing, queue):
    """Return the standing with one more turn of a queue."""
    return standing[:queue] + (standing[queue] + 1,) + standing[queue + 1:]


def rounds_at(sizes, standing, job):
    """Return in how many rounds a job is finished at a standing."""
    queue, place = job
    # The round that goes on counts, too, once the queue is past this place.
    return (standing[queue] + sizes[queue] - 1 - place) // sizes[queue]


def is_possible(plan, standing):
    """Return True if a standing is a possible one of an endless plan."""
    sizes, waits = plan
    return all([
        rounds_at(sizes, standing, second) <= rounds_at(sizes, standing, first) + distance
        for first, second, distance in waits
    ])


def has_form_of_standing(sizes, value):
    """Return True if the value, any value, is a standing of queues with these sizes, possible or not."""
    if not isinstance(value, tuple) or len(value) != len(sizes):
        return False
    return all(is_from_0_on(many) for many in value)


def is_standing(plan, value):
    """Return True if the value, any value, is a possible standing of the sound endless plan."""
    check_unstuck(plan)
    return has_form_of_standing(plan[0], value) and is_possible(plan, value)


def check_standing(plan, value):
    """Raise an error if the plan is not a sound endless one, or the value, any value, no possible standing of it."""
    if not is_standing(plan, value):
        raise InvalidStanding("not a possible standing of the plan")


def finished_rounds(plan, standing, first):
    """Return the finished rounds of a job at a possible standing of a sound endless plan."""
    check_standing(plan, standing)
    check_job(plan, first)
    return rounds_at(plan[0], standing, first)


def queues_ready_at(plan, standing):
    """Return the ascending list of the queues that are ready at a possible standing."""
    return [queue for queue in range(len(standing)) if is_possible(plan, standing_behind(standing, queue))]


def ready_queues(plan, standing):
    """Return the ascending list of the queues that are ready at a possible standing of a sound endless plan."""
    check_standing(plan, standing)
    return queues_ready_at(plan, standing)


def is_walk(plan, value):
    """Return True if the value, any value, is a walk of the sound endless plan."""
    check_unstuck(plan)
    if not isinstance(value, list):
        return False
    standing = first_standing(plan[0])
    for queue in value:
        if not is_below(queue, len(standing)):
            return False
        standing = standing_behind(standing, queue)
        if not is_possible(plan, standing):
            return False
    return True


def walk_to(plan, standing):
    """Return a walk that leads to a possible standing of a sound endless plan."""
    check_standing(plan, standing)
    walk = []
    reached = first_standing(plan[0])
    # Of the turns that are missing, one that none of the others is ahead of can always come next.
    while reached != standing:
        missing = [queue for queue in queues_ready_at(plan, reached) if reached[queue] < standing[queue]]
        walk.append(missing[0])
        reached = standing_behind(reached, missing[0])
    return walk
