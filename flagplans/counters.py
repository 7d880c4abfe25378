"""Counters: one for all least waits from a queue to another queue."""

from flagplans.least import least_waits
from flagplans.opening import waits_open_at
from flagplans.progress import possible_moments


def waits_between(waits):
    """Return a dict from each pair of queues with a wait from the first to the second to the list of these waits."""
    between = {}
    for wait in waits:
        queues = (wait[0][0], wait[1][0])
        between.setdefault(queues, []).append(wait)
    return between


def most_at_once(waits, found):
    """Return the greatest number of these waits that are open at one of the moments that were found."""
    return max(len(waits_open_at(waits, moment)) for moment in found)


def counters(plan):
    """Return the ascending list of tuples (p, q, capacity) of the counters of a sound plan."""
    between = waits_between(least_waits(plan))
    found = possible_moments(plan[0], plan[1])
    return sorted([(p, q, most_at_once(waits, found)) for (p, q), waits in between.items()])
