"""The pace of a sound endless plan: how fast its rounds can follow each other when its jobs take some time."""

from math import gcd

from flagplans.endless import check_unstuck, is_from_0_on, link_behind, links_of
from flagplans.gaps import distance_of, has_form_of_heights, height_of
from flagplans.plans import is_below, is_pair, jobs_of
from flagplans.rising import settle
from flagplans.wrongs import InvalidDurations, InvalidFraction

MOST_DURATION = 99


def are_durations(sizes, value):
    """Return True if the value, any value, is durations of a plan with these sizes."""
    if not has_form_of_heights(sizes, value):
        return False
    return all(is_below(duration, MOST_DURATION + 1) for row in value for duration in row)


def check_durations(plan, value):
    """Raise InvalidEndless or Stuck for the plan, and InvalidDurations if the value, any value, is not durations."""
    check_unstuck(plan)
    if not are_durations(plan[0], value):
        raise InvalidDurations("not durations of the plan")


def is_fraction(value):
    """Return True if the value, any value, is a fraction without a common divisor."""
    if not is_pair(value) or not is_from_0_on(value[0]) or not is_from_0_on(value[1]):
        return False
    return value[1] > 0 and gcd(value[0], value[1]) == 1


def fraction_of(durations, circle):
    """Return the time of a circle divided by its distance, which is not 0, as a fraction."""
    spent = sum([height_of(durations, link[0]) for link in circle])
    distance = distance_of(circle)
    divisor = gcd(spent, distance)
    return spent // divisor, distance // divisor


def rise_along(durations, fraction, link):
    """Return by how much the entry of the second job of a link is at least greater than that of its first job."""
    p, q = fraction
    return q * height_of(durations, link[0]) - p * link[2]


def settle_at(plan, durations, fraction):
    """Return a dict from each job to its entry in a right timetable, and None; or None and a circle that is slower."""
    links = links_of(plan)
    return settle(jobs_of(plan[0]), links, [rise_along(durations, fraction, link) for link in links])


def slowest_circle(plan, durations):
    """Return a circle with the greatest fraction, and a dict from each job to its entry in a timetable right for it."""
    circle = [link_behind(plan[0], (0, place)) for place in range(plan[0][0])]
    entries, slower = settle_at(plan, durations, fraction_of(durations, circle))
    while slower is not None:
        circle = slower
        entries, slower = settle_at(plan, durations, fraction_of(durations, circle))
    return circle, entries


def pace(plan, durations):
    """Return the pace of a sound endless plan with durations."""
    check_durations(plan, durations)
    return fraction_of(durations, slowest_circle(plan, durations)[0])


def critical_circle(plan, durations):
    """Return a circle of a sound endless plan whose time divided by its distance is the pace."""
    check_durations(plan, durations)
    return slowest_circle(plan, durations)[0]


def timetable(plan, durations):
    """Return a timetable of a sound endless plan that is right for the pace."""
    check_durations(plan, durations)
    entries = slowest_circle(plan, durations)[1]
    rows = [[entries[queue, place] for place in range(size)] for queue, size in enumerate(plan[0])]
    return tuple([tuple(row) for row in rows])


def is_right_for(plan, durations, fraction, value):
    """Return True if the value, any value, is a timetable of a sound endless plan that is right for the fraction."""
    if not has_form_of_heights(plan[0], value):
        return False
    return all([
        height_of(value, link[1]) >= height_of(value, link[0]) + rise_along(durations, fraction, link)
        for link in links_of(plan)
    ])


def is_timetable(plan, durations, fraction, value):
    """Return True if the value, any value, is a timetable of the sound endless plan that is right for the fraction."""
    check_durations(plan, durations)
    if not is_fraction(fraction):
        raise InvalidFraction("not a fraction")
    return is_right_for(plan, durations, fraction, value)
