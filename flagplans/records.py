"""The judge of records.

For each form of a record a function returns the number of the first condition that does not hold, or None.
"""

from flagplans.endless import check_endless, check_unstuck, is_circle, is_endless, is_link, links_of, zero_circle
from flagplans.gaps import are_heights, distance_of, height_of
from flagplans.opened import load_at, many_open
from flagplans.pace import are_durations, fraction_of, is_right_for
from flagplans.plans import has_job
from flagplans.reach import gap_table, has_wait
from flagplans.standings import has_form_of_standing, is_possible, is_standing
from flagplans.tours import costs_of, is_tour_by, length_by
from flagplans.turning import are_clean, clashes_at, has_form_of_turning
from flagplans.wrongs import NotARecord

# Where a row leads from a job to a job, one of them has a lesser distance.
LEAST_APART = 46


def is_row(plan, value, first, second):
    """Return True if the value, any value, is a row of links of the plan from the first job to the second one."""
    links = links_of(plan)
    if not isinstance(value, list) or not all(is_link(plan[0], links, link) for link in value):
        return False
    return [first] + [link[1] for link in value] == [link[0] for link in value] + [second]


def fault_of_stuck(record):
    """Look at the conditions of a circle with the distance 0."""
    _, plan, circle = record
    if not is_circle(plan, circle):
        return 0
    return None if distance_of(circle) == 0 else 1


def fault_of_gap(record):
    """Look at the conditions of a gap."""
    _, plan, first, second, row, heights = record
    if not has_job(plan[0], first) or not has_job(plan[0], second):
        return 0
    if not is_row(plan, row, first, second):
        return 1
    if not are_heights(plan, heights):
        return 2
    return None if distance_of(row) == height_of(heights, second) - height_of(heights, first) else 3


def fault_of_apart(record):
    """Look at the conditions of two jobs without a row from the first to the second one."""
    _, plan, first, second, heights = record
    if not has_job(plan[0], first) or not has_job(plan[0], second):
        return 0
    if not are_heights(plan, heights):
        return 1
    return None if height_of(heights, second) - height_of(heights, first) >= LEAST_APART else 2


def fault_of_bound(record):
    """Look at the conditions of a bound."""
    _, plan, wait, circle, standing = record
    if not has_wait(plan, wait):
        return 0
    if not is_circle(plan, circle) or circle[0] != wait:
        return 1
    if not is_standing(plan, standing):
        return 2
    return None if many_open(plan[0], standing, wait) == distance_of(circle) else 3


def fault_of_needed(record):
    """Look at the conditions of a wait that is needed."""
    _, plan, wait, standing = record
    if not has_wait(plan, wait):
        return 0
    if not has_form_of_standing(plan[0], standing) or is_possible(plan, standing):
        return 1
    without = (plan[0], tuple([other for other in plan[1] if other != wait]))
    return None if is_possible(without, standing) else 1


def fault_of_needless(record):
    """Look at the conditions of a wait that is needless."""
    _, plan, wait, row = record
    if not has_wait(plan, wait):
        return 0
    if not is_row(plan, row, wait[0], wait[1]) or len(row) < 2:
        return 1
    return None if distance_of(row) <= wait[2] else 2


def fault_of_parted(record):
    """Look at the conditions of two plans with different possible standings."""
    _, plan, other, standing = record
    if not is_endless(other) or other[0] != plan[0] or zero_circle(other) is not None:
        return 0
    if not has_form_of_standing(plan[0], standing):
        return 1
    return None if is_possible(plan, standing) != is_possible(other, standing) else 1


def fault_of_load(record):
    """Look at the conditions of a greatest load. A plan that is not held has no tour."""
    _, plan, tour, standing = record
    costs = costs_of(gap_table(plan), plan[1])
    if not is_tour_by(costs, tour):
        return 0
    if not is_standing(plan, standing):
        return 1
    return None if load_at(plan, standing) == length_by(costs, tour) else 2


def many_flags(flags):
    """Return the number of different flags in turning flags."""
    return len(set([flag for row in flags for flag in row]))


def fault_of_turning(record):
    """Look at the conditions of fewest turning flags. For a plan that is not held no flags are clean."""
    _, plan, flags, standing = record
    if not has_form_of_turning(plan, flags):
        return 0
    if not are_clean(gap_table(plan), plan[1], flags):
        return 1
    if not is_standing(plan, standing):
        return 2
    return None if load_at(plan, standing) == many_flags(flags) else 3


def fault_of_clash(record):
    """Look at the conditions of a clash, in a plan that may be held or not."""
    _, plan, flags, standing = record
    if not has_form_of_turning(plan, flags):
        return 0
    if not is_standing(plan, standing):
        return 1
    return None if clashes_at(plan, flags, standing) else 2


def fault_of_pace(record):
    """Look at the conditions of a pace."""
    _, plan, durations, circle, table = record
    if not are_durations(plan[0], durations):
        return 0
    if not is_circle(plan, circle):
        return 1
    return None if is_right_for(plan, durations, fraction_of(durations, circle), table) else 2


RECORD_LENGTHS = {
    "stuck": 3, "gap": 6, "apart": 5, "bound": 5, "needed": 4, "needless": 4, "parted": 4, "load": 4, "turning": 4,
    "clash": 4, "pace": 5,
}
RECORD_FAULTS = {
    "stuck": fault_of_stuck,
    "gap": fault_of_gap,
    "apart": fault_of_apart,
    "bound": fault_of_bound,
    "needed": fault_of_needed,
    "needless": fault_of_needless,
    "parted": fault_of_parted,
    "load": fault_of_load,
    "turning": fault_of_turning,
    "clash": fault_of_clash,
    "pace": fault_of_pace,
}


def has_form_of_record(value):
    """Return True for a tuple that begins with the name of a form and has the right number of entries."""
    if not isinstance(value, tuple) or not value or not isinstance(value[0], str):
        return False
    return RECORD_LENGTHS.get(value[0]) == len(value)


def check_plan_of(record):
    """Raise InvalidEndless if the second entry, any value, is not an endless plan, or Stuck if it should be sound."""
    if record[0] == "stuck":
        check_endless(record[1])
    else:
        check_unstuck(record[1])


def judge(record):
    """Return ("right",), or ("wrong", k) with the number k of the first condition that does not hold."""
    if not has_form_of_record(record):
        raise NotARecord("not a record")
    check_plan_of(record)
    fault_of = RECORD_FAULTS[record[0]]
    fault = fault_of(record)
    return ("right",) if fault is None else ("wrong", fault)
