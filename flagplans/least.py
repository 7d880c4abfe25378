"""Least waits: the waits of a sound plan that are really needed."""

from flagplans.order import check_sound, later_jobs
from flagplans.plans import check_plan, check_wait


def is_least(later, wait):
    """Return True if no job is behind the first job of a wait and before its second one."""
    return not any(wait[1] in later[middle] for middle in later[wait[0]])


def least_of(plan):
    """Return the least waits of a plan that is known to be sound."""
    later = later_jobs(plan)
    # A job that is before one of another queue, without a job between them, is directly before it by a wait.
    return tuple([wait for wait in plan[1] if is_least(later, wait)])


def least_waits(plan):
    """Return the ascending tuple of the least waits of a sound plan."""
    check_sound(plan)
    return least_of(plan)


def least_plan(plan):
    """Return the plan with the sizes of a sound plan and its least waits."""
    check_sound(plan)
    return plan[0], least_of(plan)


def is_needed(plan, wait):
    """Return True if a sound plan without this wait of it has more runs."""
    check_sound(plan)
    check_wait(plan, wait)
    return is_least(later_jobs(plan), wait)


def same_runs(first, second):
    """Return True if two sound plans have the same runs."""
    # A ring of the first plan is named only if the second value is a plan at all.
    check_plan(first)
    check_plan(second)
    check_sound(first)
    check_sound(second)
    return first[0] == second[0] and least_of(first) == least_of(second)
