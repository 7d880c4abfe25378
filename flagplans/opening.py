"""Open waits: their first job is finished, and their second one is not."""

from flagplans.order import check_sound
from flagplans.progress import is_finished, possible_moments
from flagplans.runs import check_moment


def is_open(moment, wait):
    """Return True if a wait is open at a moment."""
    return is_finished(moment, wait[0]) and not is_finished(moment, wait[1])


def waits_open_at(waits, moment):
    """Return the list of those waits that are open at a moment."""
    return [wait for wait in waits if is_open(moment, wait)]


def open_waits(plan, moment):
    """Return the ascending list of the waits that are open at a possible moment."""
    check_moment(plan, moment)
    return waits_open_at(plan[1], moment)


def busiest_of(plan):
    """Return the least moment with the most open waits, and their number, of a plan that is known to be sound."""
    best = None
    most = -1
    for moment in possible_moments(plan[0], plan[1]):
        many = len(waits_open_at(plan[1], moment))
        if many > most:
            best = moment
            most = many
    return best, most


def most_open(plan):
    """Return the greatest number of waits that are open at one possible moment of a sound plan."""
    check_sound(plan)
    return busiest_of(plan)[1]


def busiest_moment(plan):
    """Return the least possible moment of a sound plan at which the most waits are open."""
    check_sound(plan)
    return busiest_of(plan)[0]
