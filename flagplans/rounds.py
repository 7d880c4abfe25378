"""The turns of an endless plan, and its first rounds as a plan that comes to an end."""

from flagplans.endless import check_unstuck
from flagplans.errors import InvalidNumber, TooMany
from flagplans.plans import MOST_PLACES, MOST_WAITS, is_below

MOST_FIRST_ROUNDS = 6


def turn_behind(sizes, queue, many):
    """Return the turn of a queue that comes when so many of its turns are finished."""
    return (queue, many % sizes[queue]), many // sizes[queue]


def job_of_turn(sizes, job, number):
    """Return the job that the turn of a job in a round with this number becomes."""
    queue, place = job
    return queue, place + number * sizes[queue]


def waits_in_rounds(plan, number):
    """Return the ascending list of the waits of so many first rounds of an endless plan."""
    sizes, waits = plan
    return sorted([
        (job_of_turn(sizes, first, begun), job_of_turn(sizes, second, begun + distance))
        for first, second, distance in waits for begun in range(number - distance)
    ])


def first_rounds(plan, number):
    """Return the plan of so many first rounds of a sound endless plan."""
    check_unstuck(plan)
    if not is_below(number, MOST_FIRST_ROUNDS + 1) or number == 0:
        raise InvalidNumber("not a number from 1 to 6")
    sizes = tuple([size * number for size in plan[0]])
    waits = waits_in_rounds(plan, number)
    if max(sizes) > MOST_PLACES or len(waits) > MOST_WAITS:
        raise TooMany("more than 6 jobs in a queue or more than 24 waits")
    return sizes, tuple(waits)
