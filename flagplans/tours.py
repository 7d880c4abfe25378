"""Tours of the waits of a held endless plan, and the greatest load.

The cost from a wait to a wait is the distance of the first one and the gap from its second job to the first job of
the other one, so that the length of a tour is the sum of the costs from each wait to the one that follows.
"""

from flagplans.plans import is_below
from flagplans.reach import standing_with, table_of_held
from flagplans.rising import settle
from flagplans.wrongs import InvalidTour


def cost_between(table, wait, other):
    """Return the cost from a wait to a wait, or None if no row leads there."""
    least = table[wait[1]].get(other[0])
    return None if least is None else wait[2] + least


def costs_of(table, waits):
    """Return a list with the list of the costs from each wait to all waits."""
    return [[cost_between(table, wait, other) for other in waits] for wait in waits]


def are_all_numbers(value, many):
    """Return True if the value, any value, is a tuple of the integers from 0 to below so many, each once."""
    if not isinstance(value, tuple) or len(value) != many or not all(is_below(number, many) for number in value):
        return False
    return len(set(value)) == many


def is_tour_by(costs, value):
    """Return True if the value, any value, is a tour of waits with these costs."""
    if not are_all_numbers(value, len(costs)):
        return False
    return all([row[number] is not None for row, number in zip(costs, value)])


def length_by(costs, tour):
    """Return the length of a tour of waits with these costs."""
    return sum([row[number] for row, number in zip(costs, tour)])


def is_tour(plan, value):
    """Return True if the value, any value, is a tour of the held endless plan."""
    return is_tour_by(costs_of(table_of_held(plan), plan[1]), value)


def tour_length(plan, tour):
    """Return the length of a tour of a held endless plan."""
    costs = costs_of(table_of_held(plan), plan[1])
    if not is_tour_by(costs, tour):
        raise InvalidTour("not a tour of the plan")
    return length_by(costs, tour)


def savings(costs, tour):
    """Return a list of links between the waits, and a list with what each of them saves.

    By a link from a wait to a wait, the first one gets the wait that follows the second one now.
    """
    numbers = range(len(costs))
    links = [(i, j) for i in numbers for j in numbers if costs[i][tour[j]] is not None]
    return links, [costs[j][tour[j]] - costs[i][tour[j]] for i, j in links]


def changed_tour(tour, circle):
    """Return the tour in which, for each link of a circle, a wait has got the one that followed the other wait."""
    given = {i: tour[j] for i, j in circle}
    return tuple([given.get(number, following) for number, following in enumerate(tour)])


def look_for_savings(costs, tour):
    """Return levels of the waits that show that a tour is a shortest one, and None; or None and a circle of savings."""
    links, weights = savings(costs, tour)
    return settle(tour, links, weights)


def best_tour(costs):
    """Return a shortest tour of held waits with these costs, and levels of the waits that show that it is one."""
    # In a held plan each wait may follow itself.
    tour = tuple(range(len(costs)))
    levels, circle = look_for_savings(costs, tour)
    while circle is not None:
        tour = changed_tour(tour, circle)
        levels, circle = look_for_savings(costs, tour)
    return tour, levels


def shortest_tour(plan):
    """Return a shortest tour of a held endless plan."""
    return best_tour(costs_of(table_of_held(plan), plan[1]))[0]


def greatest_load(plan):
    """Return the greatest load of the possible standings of a held endless plan."""
    costs = costs_of(table_of_held(plan), plan[1])
    return length_by(costs, best_tour(costs)[0])


def rounds_ahead(costs):
    """Return a list of numbers of rounds, one for each of some held waits with these costs.

    If the first job of each wait is finished in so many rounds, and no turn is finished that need not be, the waits are
    open in as many rounds together as a shortest tour is long.
    """
    tour, levels = best_tour(costs)
    heights = {tour[number]: costs[number][tour[number]] - levels[number] for number in levels}
    # Where a second job is finished in fewer rounds than the distance of its wait, the load could still become greater.
    least = max([costs[number][number] - heights[number] for number in heights], default=0)
    return [heights[number] + least for number in range(len(costs))]


def fullest_standing(plan):
    """Return a possible standing of a held endless plan with the greatest load."""
    table = table_of_held(plan)
    rounds = rounds_ahead(costs_of(table, plan[1]))
    return standing_with(plan, table, [(wait[0], many) for wait, many in zip(plan[1], rounds)])
