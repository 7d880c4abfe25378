"""Plans: queues of jobs, and waits between the jobs of different queues."""

from flagplans.errors import InvalidPlan, UnknownJob, UnknownWait

MOST_QUEUES = 4
MOST_PLACES = 6
MOST_WAITS = 24


def is_int(value):
    """Return True for an int that is not a bool."""
    return isinstance(value, int) and not isinstance(value, bool)


def is_pair(value):
    """Return True for a tuple with two entries."""
    return isinstance(value, tuple) and len(value) == 2


def is_below(value, limit):
    """Return True for an integer from 0 on that is less than the limit."""
    return is_int(value) and 0 <= value < limit


def are_sizes(value):
    """Return True if the value, any value, can be the sizes of a plan."""
    if not isinstance(value, tuple) or not 1 <= len(value) <= MOST_QUEUES:
        return False
    return all(is_below(size, MOST_PLACES + 1) for size in value)


def has_job(sizes, value):
    """Return True if the value, any value, is a job of queues with these sizes."""
    if not is_pair(value) or not is_below(value[0], len(sizes)):
        return False
    return is_below(value[1], sizes[value[0]])


def can_wait(sizes, value):
    """Return True if the value, any value, is a pair of jobs of different queues."""
    if not is_pair(value) or not has_job(sizes, value[0]) or not has_job(sizes, value[1]):
        return False
    return value[0][0] != value[1][0]


def are_waits(sizes, value):
    """Return True if the value, any value, can be the waits of a plan with these sizes."""
    if not isinstance(value, tuple) or len(value) > MOST_WAITS:
        return False
    if not all(can_wait(sizes, wait) for wait in value):
        return False
    return all([wait < other for wait, other in zip(value, value[1:])])


def is_plan(value):
    """Return True if the value, any value, is a plan."""
    return is_pair(value) and are_sizes(value[0]) and are_waits(value[0], value[1])


def check_plan(value):
    """Raise InvalidPlan if the value, any value, is not a plan."""
    if not is_plan(value):
        raise InvalidPlan("not a plan")


def jobs_of(sizes):
    """Return the ascending list of the jobs of queues with these sizes."""
    return [(queue, place) for queue, size in enumerate(sizes) for place in range(size)]


def jobs(plan):
    """Return the ascending list of the jobs of a plan."""
    check_plan(plan)
    return jobs_of(plan[0])


def is_job(plan, value):
    """Return True if the value, any value, is a job of the plan."""
    check_plan(plan)
    return has_job(plan[0], value)


def check_job(plan, value):
    """Raise UnknownJob if the value, any value, is not a job of a plan that is known to be one."""
    if not has_job(plan[0], value):
        raise UnknownJob(value)


def check_wait(plan, value):
    """Raise UnknownWait if the value, any value, is not a wait of a plan that is known to be one."""
    # True equals 1, so that a look into the waits alone would take a bool for a number.
    if not can_wait(plan[0], value) or value not in plan[1]:
        raise UnknownWait(value)
