"""Gaps between the jobs of a sound endless plan, shown by rows and by heights, and which turns are ahead of others."""

from flagplans.endless import check_unstuck, is_from_0_on, links_of
from flagplans.plans import check_job, has_job, is_int, is_pair
from flagplans.wrongs import InvalidTurn

# Greater than every gap, so that heights may differ by so much where no row leads.
NO_GAP = 100


def distance_of(row):
    """Return the distance of a row of links."""
    return sum([link[2] for link in row])


def is_nearer(row, other):
    """Return True if a row has a lesser distance than another one, or if there is no other one."""
    return other is None or distance_of(row) < distance_of(other)


def rows_from(links, start):
    """Return a dict from each job to which a row leads from the job start to such a row with the least distance."""
    rows = {start: []}
    changed = [start]
    while changed:
        later = []
        for job in changed:
            for link in links:
                row = rows[job] + [link]
                if link[0] == job and is_nearer(row, rows.get(link[1])):
                    rows[link[1]] = row
                    later.append(link[1])
        changed = later
    return rows


def gaps_from(plan, start):
    """Return a dict from each job to which a row leads from a job of a sound endless plan to the gap."""
    rows = rows_from(links_of(plan), start)
    return {job: distance_of(rows[job]) for job in rows}


def check_jobs(plan, first, second):
    """Raise InvalidEndless or Stuck for the plan, or UnknownJob for one of two values, any values."""
    check_unstuck(plan)
    check_job(plan, first)
    check_job(plan, second)


def gap(plan, first, second):
    """Return the least distance of a row from a job to a job of a sound endless plan, or None."""
    check_jobs(plan, first, second)
    return gaps_from(plan, first).get(second)


def gap_row(plan, first, second):
    """Return a row from a job to a job of a sound endless plan with the gap as its distance, or None."""
    check_jobs(plan, first, second)
    return rows_from(links_of(plan), first).get(second)


def gap_heights(plan, first, second):
    """Return heights of a sound endless plan with the gap between a job and a job, or with 100 if it is None."""
    check_jobs(plan, first, second)
    gaps = gaps_from(plan, first)
    # No link leads from a job with a gap to one without, so that those without may stand higher by any number.
    rows = [[gaps.get((queue, place), NO_GAP) for place in range(size)] for queue, size in enumerate(plan[0])]
    return tuple([tuple(row) for row in rows])


def are_integers(value, many):
    """Return True if the value, any value, is a tuple of so many integers."""
    return isinstance(value, tuple) and len(value) == many and all(is_int(entry) for entry in value)


def has_form_of_heights(sizes, value):
    """Return True if the value, any value, is a tuple with a tuple for each queue, with an integer for each job."""
    if not isinstance(value, tuple) or len(value) != len(sizes):
        return False
    return all([are_integers(row, size) for row, size in zip(value, sizes)])


def height_of(heights, job):
    """Return the height of a job."""
    return heights[job[0]][job[1]]


def are_heights(plan, value):
    """Return True if the value, any value, is heights of the sound endless plan."""
    check_unstuck(plan)
    if not has_form_of_heights(plan[0], value):
        return False
    links = links_of(plan)
    return all([height_of(value, link[1]) <= height_of(value, link[0]) + link[2] for link in links])


def check_turn(sizes, value):
    """Raise InvalidTurn if the value, any value, is not a turn of queues with these sizes."""
    if not is_pair(value) or not has_job(sizes, value[0]) or not is_from_0_on(value[1]):
        raise InvalidTurn("not a turn of the plan")


def is_ahead(plan, turn, other):
    """Return True if a turn of a sound endless plan is ahead of another one. No turn is ahead of itself."""
    check_unstuck(plan)
    check_turn(plan[0], turn)
    check_turn(plan[0], other)
    least = gaps_from(plan, turn[0]).get(other[0])
    return turn != other and least is not None and least <= other[1] - turn[1]
