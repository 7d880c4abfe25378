"""Least endless plans: those with just the waits that are really needed."""

from flagplans.endless import check_unstuck, is_endless, links_of
from flagplans.reach import check_endless_wait, gap_table, standing_with
from flagplans.wrongs import InvalidEndless


def is_needless(plan, table, wait):
    """Return True if some row of at least two links leads as far as a wait of the plan, or less far."""
    first, second, distance = wait
    # Instead of going round behind the second job, a row can as well go round the queue of the first job before.
    links = [link for link in links_of(plan) if link[0] == first and link[1] != second]
    return any(second in table[link[1]] and link[2] + table[link[1]][second] <= distance for link in links)


def is_needed_wait(plan, wait):
    """Return True if a wait of a sound endless plan is needed."""
    check_unstuck(plan)
    check_endless_wait(plan, wait)
    return not is_needless(plan, gap_table(plan), wait)


def least_endless(plan):
    """Return the endless plan with the sizes of a sound one and just its needed waits."""
    check_unstuck(plan)
    table = gap_table(plan)
    return plan[0], tuple([wait for wait in plan[1] if not is_needless(plan, table, wait)])


def check_other(plan, value):
    """Raise InvalidEndless if the value, any value, has not the form of a plan with the same sizes, or else Stuck."""
    if not is_endless(value) or value[0] != plan[0]:
        raise InvalidEndless("not an endless plan with the same sizes")
    check_unstuck(value)


def standing_against(plan, waits):
    """Return a possible standing of a plan that one of these waits would forbid, or None if they forbid none."""
    table = gap_table(plan)
    for first, second, distance in waits:
        least = table[first].get(second)
        if least is None or least > distance:
            # So many turns of the second job are possible without any turn of the first one.
            return standing_with(plan, table, [(second, distance + 1)])
    return None


def parting_standing(plan, other):
    """Return a standing that is possible for just one of two sound endless plans with the same sizes, or None."""
    check_unstuck(plan)
    check_other(plan, other)
    standing = standing_against(other, plan[1])
    return standing_against(plan, other[1]) if standing is None else standing
