"""Changed plans: with one wait more or less, mirrored, and two plans side by side."""

from flagplans.errors import RingMade, SameQueue, TooMany, WaitTaken
from flagplans.order import is_sound
from flagplans.plans import MOST_QUEUES, MOST_WAITS, check_job, check_plan, check_wait


def check_new_wait(plan, first, second):
    """Raise an error if two values, any values, are not the jobs of a wait that the plan could have and has not."""
    check_job(plan, first)
    check_job(plan, second)
    if first[0] == second[0]:
        raise SameQueue("both jobs belong to one queue")
    if (first, second) in plan[1]:
        raise WaitTaken((first, second))


def with_wait(plan, wait):
    """Return the plan with one more wait, for which check_new_wait raised no error."""
    if len(plan[1]) == MOST_WAITS:
        raise TooMany("the plan has 24 waits")
    longer = (plan[0], tuple(sorted(plan[1] + (wait,))))
    if not is_sound(longer):
        raise RingMade("the plan with this wait has a ring")
    return longer


def add_wait(plan, first, second):
    """Return the plan with one more wait, of the second job for the first one."""
    check_plan(plan)
    check_new_wait(plan, first, second)
    return with_wait(plan, (first, second))


def drop_wait(plan, wait):
    """Return the plan without a wait of it."""
    check_plan(plan)
    check_wait(plan, wait)
    return plan[0], tuple([other for other in plan[1] if other != wait])


def mirrored_job(sizes, job):
    """Return the job with the same distance from the other end of its queue."""
    queue, place = job
    return queue, sizes[queue] - 1 - place


def mirrored(plan):
    """Return the plan in which all is done the other way round."""
    check_plan(plan)
    sizes, waits = plan
    turned = [(mirrored_job(sizes, second), mirrored_job(sizes, first)) for first, second in waits]
    return sizes, tuple(sorted(turned))


def moved_job(many, job):
    """Return the job in the queue that is so many queues further behind."""
    return job[0] + many, job[1]


def side_by_side(first, second):
    """Return the plan of both plans, with the queues of the second plan behind those of the first one."""
    check_plan(first)
    check_plan(second)
    if len(first[0]) + len(second[0]) > MOST_QUEUES or len(first[1]) + len(second[1]) > MOST_WAITS:
        raise TooMany("more than 4 queues or 24 waits")
    many = len(first[0])
    moved = [(moved_job(many, job), moved_job(many, other)) for job, other in second[1]]
    return first[0] + second[0], first[1] + tuple(moved)
