"""All gaps of a sound endless plan at once, the waits that they hold, and the standings that they lead to."""

from flagplans.endless import can_wait_endlessly, check_unstuck
from flagplans.errors import UnknownWait
from flagplans.gaps import gaps_from
from flagplans.plans import jobs_of
from flagplans.wrongs import NotHeld


def has_wait(plan, value):
    """Return True if the value, any value, is a wait of an endless plan."""
    # True equals 1, so that a look into the waits alone would take a bool for a number.
    return can_wait_endlessly(plan[0], value) and value in plan[1]


def check_endless_wait(plan, value):
    """Raise UnknownWait if the value, any value, is not a wait of an endless plan that is known to be one."""
    if not has_wait(plan, value):
        raise UnknownWait(value)


def gap_table(plan):
    """Return a dict from each job to a dict from each job to which a row leads from it to the gap."""
    return {job: gaps_from(plan, job) for job in jobs_of(plan[0])}


def bound_in(table, wait):
    """Return the bound of a wait by the gaps of its plan, or None if the wait is not held."""
    first, second, distance = wait
    back = table[second].get(first)
    return None if back is None else distance + back


def table_of_held(value):
    """Return the gaps of a plan that is held.

    Raise InvalidEndless if the value, any value, is not an endless plan, Stuck if it is not a sound one, and NotHeld
    with the first of its waits that is not held.
    """
    check_unstuck(value)
    table = gap_table(value)
    for wait in value[1]:
        if bound_in(table, wait) is None:
            raise NotHeld(wait)
    return table


def rounds_needed(table, wanted, job):
    """Return in how many rounds a job has to be finished, so that each wanted job can be in so many rounds."""
    return max([0] + [many - table[job][other] for other, many in wanted if other in table[job]])


def standing_with(plan, table, wanted):
    """Return the possible standing with the fewest turns at which each wanted job is finished in so many rounds.

    The wanted jobs are a list of tuples of a job and a number of rounds.
    """
    return tuple([
        sum([rounds_needed(table, wanted, (queue, place)) for place in range(size)])
        for queue, size in enumerate(plan[0])
    ])
