"""Open rounds of waits: the turn of the first job is finished, and that of the second one is not."""

from flagplans.endless import check_unstuck
from flagplans.reach import bound_in, check_endless_wait, gap_table, standing_with
from flagplans.standings import check_standing, rounds_at
from flagplans.wrongs import NotHeld


def open_span(sizes, standing, wait):
    """Return the first round in which a wait is open at a possible standing, and the one behind the last such round."""
    first, second, distance = wait
    return max(0, rounds_at(sizes, standing, second) - distance), rounds_at(sizes, standing, first)


def open_rounds(plan, standing, wait):
    """Return the ascending list of the rounds in which a wait is open at a possible standing."""
    check_standing(plan, standing)
    check_endless_wait(plan, wait)
    begin, end = open_span(plan[0], standing, wait)
    return list(range(begin, end))


def many_open(sizes, standing, wait):
    """Return in how many rounds a wait is open at a possible standing. They may be too many for a list."""
    begin, end = open_span(sizes, standing, wait)
    return end - begin


def load_at(plan, standing):
    """Return the load of a standing that is known to be possible."""
    return sum([many_open(plan[0], standing, wait) for wait in plan[1]])


def load(plan, standing):
    """Return the load of a possible standing of a sound endless plan."""
    check_standing(plan, standing)
    return load_at(plan, standing)


def bound_of(plan, wait):
    """Return the bound of a wait of a sound endless plan, or None if it is not held."""
    check_unstuck(plan)
    check_endless_wait(plan, wait)
    return bound_in(gap_table(plan), wait)


def full_standing(plan, wait):
    """Return a possible standing at which a held wait is open in as many rounds as its bound."""
    check_unstuck(plan)
    check_endless_wait(plan, wait)
    table = gap_table(plan)
    bound = bound_in(table, wait)
    if bound is None:
        raise NotHeld(wait)
    # The second job is finished in no more rounds than it must be for this, so that the wait stays open.
    return standing_with(plan, table, [(wait[0], bound)])
