"""Order: which jobs are before others, rings, and sound plans."""

from flagplans.errors import Unsound
from flagplans.plans import check_job, check_plan, has_job, jobs_of
from flagplans.progress import can_be_finished


def is_directly_before(plan, first, second):
    """Return True if the first job of a plan is directly before the second one."""
    if first[0] == second[0]:
        return first[1] + 1 == second[1]
    return (first, second) in plan[1]


def direct_pairs(plan):
    """Return the ascending list of all pairs of jobs of a plan of which the first is directly before the second."""
    links = [((queue, place), (queue, place + 1)) for queue, size in enumerate(plan[0]) for place in range(size - 1)]
    return sorted(links + list(plan[1]))


def following_jobs(plan):
    """Return a dict from each job of a plan to the ascending list of the jobs that it is directly before."""
    following = {job: [] for job in jobs_of(plan[0])}
    for first, second in direct_pairs(plan):
        following[first].append(second)
    return following


def is_ring(plan, value):
    """Return True if the value, any value, is a ring of the plan."""
    check_plan(plan)
    if not isinstance(value, list) or len(value) < 2:
        return False
    if not all(has_job(plan[0], job) for job in value) or len(set(value)) < len(value):
        return False
    return all([is_directly_before(plan, job, other) for job, other in zip(value, value[1:] + value[:1])])


def ring_through(following, start):
    """Return a shortest ring that begins with a job, or None."""
    rows = [[start]]
    reached = {start: True}
    while rows:
        longer = []
        for row in rows:
            for job in following[row[-1]]:
                if job == start:
                    return row
                if job not in reached:
                    reached[job] = True
                    longer.append(row + [job])
        rows = longer
    return None


def shortest_ring(plan):
    """Return a ring with as few jobs as possible, or None if the plan has no ring."""
    check_plan(plan)
    following = following_jobs(plan)
    shortest = None
    for start in following:
        ring = ring_through(following, start)
        if ring is not None and (shortest is None or len(ring) < len(shortest)):
            shortest = ring
    return shortest


def is_sound(plan):
    """Return True if the plan has no ring."""
    check_plan(plan)
    # A plan has a run exactly if it has no ring, and a run is found faster.
    return can_be_finished(plan[0], plan[1])


def check_sound(value):
    """Raise InvalidPlan if the value, any value, is not a plan, and Unsound if it is not a sound one."""
    if not is_sound(value):
        raise Unsound("the plan has a ring")


def jobs_behind(following, start):
    """Return a dict with all jobs as its keys to which a row of jobs leads from the job start."""
    behind = {}
    waiting = list(following[start])
    while waiting:
        job = waiting.pop()
        if job not in behind:
            behind[job] = True
            waiting.extend(following[job])
    return behind


def later_jobs(plan):
    """Return a dict from each job of a plan to a dict with all jobs as its keys that it is before."""
    following = following_jobs(plan)
    return {job: jobs_behind(following, job) for job in following}


def is_before(plan, first, second):
    """Return True if the first job is before the second one in a sound plan."""
    check_sound(plan)
    check_job(plan, first)
    check_job(plan, second)
    return second in jobs_behind(following_jobs(plan), first)
