"""Runs and possible moments of plans."""

from flagplans.errors import InvalidMoment, TooMany
from flagplans.plans import check_plan, has_job, is_below
from flagplans.progress import (
    awaited_jobs,
    can_be_finished,
    first_moment,
    is_ready,
    least_order,
    moment_behind,
    possible_moments,
    ready_jobs,
    run_counts,
)

MOST_MOMENTS = 500


def is_run(plan, value):
    """Return True if the value, any value, is a run of the plan."""
    check_plan(plan)
    sizes, waits = plan
    if not isinstance(value, tuple) or not all(has_job(sizes, job) for job in value):
        return False
    awaited = awaited_jobs(sizes, waits)
    moment = first_moment(sizes)
    for job in value:
        if not is_ready(awaited, moment, job):
            return False
        moment = moment_behind(moment, job)
    return moment == sizes


def least_run(plan):
    """Return the least run of the plan, or None if it has no run."""
    check_plan(plan)
    order = least_order(plan[0], plan[1])
    if len(order) < sum(plan[0]):
        return None
    return tuple(order)


def count_runs(plan):
    """Return the number of runs of the plan."""
    check_plan(plan)
    # All jobs are finished at the moment that has the numbers of the sizes.
    return run_counts(plan[0], plan[1]).get(plan[0], 0)


def has_form_of_moment(sizes, value):
    """Return True if the value, any value, is a moment of queues with these sizes, possible or not."""
    if not isinstance(value, tuple) or len(value) != len(sizes):
        return False
    return all([is_below(many, size + 1) for many, size in zip(value, sizes)])


def is_moment(plan, value):
    """Return True if the value, any value, is a possible moment of the plan."""
    check_plan(plan)
    # The finished jobs alone must be a plan that can be carried out, with the waits of these jobs.
    return has_form_of_moment(plan[0], value) and can_be_finished(value, plan[1])


def check_moment(plan, value):
    """Raise InvalidPlan if plan is not a plan, and InvalidMoment if the value is not a possible moment of it."""
    if not is_moment(plan, value):
        raise InvalidMoment("not a possible moment of the plan")


def count_moments(plan):
    """Return the number of possible moments of the plan."""
    check_plan(plan)
    return len(possible_moments(plan[0], plan[1]))


def moments(plan):
    """Return the ascending list of the possible moments of the plan."""
    check_plan(plan)
    found = possible_moments(plan[0], plan[1])
    if len(found) > MOST_MOMENTS:
        raise TooMany("more than 500 possible moments")
    return found


def ready(plan, moment):
    """Return the ascending list of the jobs that are ready at a possible moment."""
    check_moment(plan, moment)
    return ready_jobs(awaited_jobs(plan[0], plan[1]), moment)
