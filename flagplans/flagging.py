"""Flags for waits: which waits may share one, and where flags clash."""

from flagplans.errors import InvalidFlags
from flagplans.opening import is_open
from flagplans.order import check_sound, later_jobs
from flagplans.plans import check_plan, check_wait, is_below
from flagplans.progress import possible_moments

MOST_FLAGS = 24


def closes_before(later, wait, other):
    """Return True if the second job of a wait is the first job of the other wait, or before it."""
    return wait[1] == other[0] or other[0] in later[wait[1]]


def may_share(plan, first, second):
    """Return True if two waits of a sound plan are the same or never open together."""
    check_sound(plan)
    check_wait(plan, first)
    check_wait(plan, second)
    later = later_jobs(plan)
    return first == second or closes_before(later, first, second) or closes_before(later, second, first)


def are_flags(waits, value):
    """Return True if the value, any value, is flags for these waits."""
    if not isinstance(value, tuple) or len(value) != len(waits):
        return False
    return all(is_below(flag, MOST_FLAGS) for flag in value)


def is_flags(plan, value):
    """Return True if the value, any value, is flags for the plan."""
    check_plan(plan)
    return are_flags(plan[1], value)


def clash_at(waits, flags, moment):
    """Return True if two waits that are open at a moment have the same flag."""
    used = [flag for wait, flag in zip(waits, flags) if is_open(moment, wait)]
    return len(set(used)) < len(used)


def clash(plan, flags):
    """Return the least possible moment of a sound plan at which the flags clash, or None."""
    check_sound(plan)
    if not are_flags(plan[1], flags):
        raise InvalidFlags("not flags for the plan")
    for moment in possible_moments(plan[0], plan[1]):
        if clash_at(plan[1], flags, moment):
            return moment
    return None
