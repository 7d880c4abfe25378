"""How far jobs can be finished. All functions here take parts of values that are known to be plans."""

from flagplans.plans import jobs_of


def first_moment(sizes):
    """Return the moment at which no job is finished."""
    return (0,) * len(sizes)


def is_finished(moment, job):
    """Return True if a job is finished at a moment."""
    return job[1] < moment[job[0]]


def awaited_jobs(sizes, waits):
    """Return a dict from each job of the queues to the list of the jobs of other queues that it waits for."""
    awaited = {job: [] for job in jobs_of(sizes)}
    for first, second in waits:
        if second in awaited:
            awaited[second].append(first)
    return awaited


def is_ready(awaited, moment, job):
    """Return True if a job, whether it exists or not, is a job that can be finished next at a moment."""
    if job not in awaited or job[1] != moment[job[0]]:
        return False
    return all(is_finished(moment, first) for first in awaited[job])


def ready_jobs(awaited, moment):
    """Return the ascending list of the jobs that can be finished next at a moment."""
    return [(queue, many) for queue, many in enumerate(moment) if is_ready(awaited, moment, (queue, many))]


def moment_behind(moment, job):
    """Return the moment at which one more job is finished."""
    queue, place = job
    return moment[:queue] + (place + 1,) + moment[queue + 1:]


def least_order(sizes, waits):
    """Return the jobs of the queues in the least order in which they can be finished, as far as they can.

    The waits may name jobs that are not in the queues: what waits for such a job is never finished.
    """
    awaited = awaited_jobs(sizes, waits)
    moment = first_moment(sizes)
    order = []
    ready = ready_jobs(awaited, moment)
    while ready:
        order.append(ready[0])
        moment = moment_behind(moment, ready[0])
        ready = ready_jobs(awaited, moment)
    return order


def can_be_finished(sizes, waits):
    """Return True if all jobs of the queues can be finished without any other job."""
    return len(least_order(sizes, waits)) == sum(sizes)


def run_counts(sizes, waits):
    """Return a dict from each possible moment to the number of orders in which its jobs can be finished."""
    awaited = awaited_jobs(sizes, waits)
    start = first_moment(sizes)
    counts = {start: 1}
    level = [start]
    # All moments of a level have as many finished jobs, so that their counts are complete when they are used.
    while level:
        later = {}
        for moment in level:
            for job in ready_jobs(awaited, moment):
                behind = moment_behind(moment, job)
                counts[behind] = counts.get(behind, 0) + counts[moment]
                later[behind] = True
        level = list(later)
    return counts


def possible_moments(sizes, waits):
    """Return the ascending list of the possible moments."""
    return sorted(run_counts(sizes, waits))
