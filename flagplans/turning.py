"""Turning flags: the flag of a wait changes from round to round, and comes back after some rounds.

Two waits of which one is open in a round, and the other one in a round that is so many rounds later, are open together
at some possible standing exactly if this difference lies between two limits, which the gaps of the plan give.
"""

from math import gcd

from flagplans.opened import open_span
from flagplans.plans import is_below
from flagplans.reach import standing_with, table_of_held
from flagplans.tours import best_tour, costs_of, greatest_load
from flagplans.wrongs import InvalidTurning

MOST_ENTRIES = 500
MOST_TURNING = 500


def is_turning_row(value):
    """Return True if the value, any value, can be the flags of one wait."""
    if not isinstance(value, tuple) or not 1 <= len(value) <= MOST_ENTRIES:
        return False
    return all(is_below(flag, MOST_TURNING) for flag in value)


def has_form_of_turning(plan, value):
    """Return True if the value, any value, is turning flags for a sound endless plan, held or not."""
    if not isinstance(value, tuple) or len(value) != len(plan[1]):
        return False
    return all(is_turning_row(row) for row in value)


def is_turning(plan, value):
    """Return True if the value, any value, is turning flags for the held endless plan."""
    table_of_held(plan)
    return has_form_of_turning(plan, value)


def flag_in(row, number):
    """Return the flag that a wait with this row of flags has in a round."""
    return row[number % len(row)]


def flags_open(sizes, standing, wait, row):
    """Return the list of the flags of a wait in its open rounds, but of no more rounds than let one flag come twice."""
    begin, end = open_span(sizes, standing, wait)
    return [flag_in(row, number) for number in range(begin, min(end, begin + len(row) + 1))]


def clashes_at(plan, flags, standing):
    """Return True if turning flags clash at a possible standing of a sound endless plan, held or not."""
    shown = []
    for wait, row in zip(plan[1], flags):
        shown.extend(flags_open(plan[0], standing, wait, row))
    return len(set(shown)) < len(shown)


def most_later(table, wait, other, limit):
    """Return by how many rounds the round of another wait can be later than that of a wait when both are open.

    The limit is returned if it can be later by any number.
    """
    # Where a row leads there, the other wait opens in still later rounds only when the wait is closed.
    back = table[wait[1]].get(other[0])
    return limit if back is None else wait[2] + back - 1


def differences(table, wait, other, limit):
    """Return the list of the differences of the rounds in which two waits, or a wait and itself, are open together.

    Where they have no limit on one side, the list goes up to the given limit on this side.
    """
    last = most_later(table, wait, other, limit)
    first = 1 if wait == other else -most_later(table, other, wait, limit)
    return list(range(first, last + 1))


def can_meet(row, marks, period, late):
    """Return True if the other wait can have the same flag so many rounds later.

    The dict marks has as its keys the flags of the other wait, each with what its place in the row leaves behind the
    division by the period.
    """
    return any((flag, (place + late) % period) in marks for place, flag in enumerate(row))


def meeting_differences(table, waits, flags, pair):
    """Return the list of the differences of rounds in which the waits with two numbers clash somewhere."""
    i, j = pair
    row, other = flags[i], flags[j]
    flags_of_other = {flag: True for flag in other}
    if not any(flag in flags_of_other for flag in row):
        return []
    # The rows can be at any two places together that leave the same behind the division by this number.
    period = gcd(len(row), len(other))
    marks = {(flag, place % period): True for place, flag in enumerate(other)}
    found = differences(table, waits[i], waits[j], period)
    return [late for late in found if can_meet(row, marks, period, late)]


def pairs_of(waits):
    """Return the list of all pairs of numbers of waits, each wait also with itself."""
    return [(i, j) for j in range(len(waits)) for i in range(j + 1)]


def are_clean(table, waits, flags):
    """Return True if the turning flags clash at no possible standing of a sound endless plan with these gaps."""
    return not any(meeting_differences(table, waits, flags, pair) for pair in pairs_of(waits))


def first_meeting(row, other, late):
    """Return the first round in which a wait has the flag that the other wait has so many rounds later."""
    number = max(0, -late)
    while flag_in(row, number) != flag_in(other, number + late):
        number += 1
    return number


def meetings(table, waits, flags):
    """Return a list of pairs of tuples (number of a wait, round) in which flags clash: an early one of each kind."""
    found = []
    for i, j in pairs_of(waits):
        for late in meeting_differences(table, waits, flags, (i, j)):
            number = first_meeting(flags[i], flags[j], late)
            found.append(((i, number), (j, number + late)))
    return found


def last_round(meeting):
    """Return the later one of the rounds of a meeting."""
    return max(meeting[0][1], meeting[1][1])


def turning_clash(plan, flags):
    """Return a possible standing of a held endless plan and two tuples of the number of a wait and a round, or None.

    The waits are open in these rounds at the standing, and have the same flag.
    """
    table = table_of_held(plan)
    waits = plan[1]
    if not has_form_of_turning(plan, flags):
        raise InvalidTurning("not turning flags for the plan")
    found = meetings(table, waits, flags)
    if not found:
        return None
    one, other = min(found, key=last_round)
    wanted = [(waits[number][0], turn_round + 1) for number, turn_round in (one, other)]
    return standing_with(plan, table, wanted), one, other


def fewest_turning(plan):
    """Return the fewest turning flags of a held endless plan."""
    return greatest_load(plan)


def circle_from(tour, number):
    """Return the list of the waits that follow each other in a tour from a wait on, until the tour is back at it."""
    circle = [number]
    while tour[circle[-1]] != number:
        circle.append(tour[circle[-1]])
    return circle


def rows_of_circle(costs, tour, circle, base):
    """Return a dict from each wait of a circle of a tour to its row of flags, where base is the least flag.

    A wait can take the flag of the one that it follows when so many rounds have gone by as the cost is.
    """
    length = sum([costs[number][tour[number]] for number in circle])
    rows = {}
    late = 0
    for number in circle:
        rows[number] = tuple([base + (place - late) % length for place in range(length)])
        late += costs[number][tour[number]]
    return rows


def turning_flags(plan):
    """Return clean turning flags for a held endless plan with just the integers below the fewest turning flags."""
    costs = costs_of(table_of_held(plan), plan[1])
    tour = best_tour(costs)[0]
    rows = {}
    base = 0
    for number in tour:
        if number not in rows:
            found = rows_of_circle(costs, tour, circle_from(tour, number), base)
            rows.update(found)
            base += len(found[number])
    return tuple([rows[number] for number in range(len(costs))])
