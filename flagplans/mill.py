"""The mill: a sound endless plan that changes while its turns are finished, and marks to return to."""

from flagplans.endless import MOST_DISTANCE, MOST_ENDLESS_WAITS, are_endless_sizes
from flagplans.errors import Blocked, Full, InvalidMark, InvalidNumber, NothingFinished, SameQueue, TooMany, WaitTaken
from flagplans.opened import open_span
from flagplans.plans import check_job, is_below
from flagplans.reach import check_endless_wait
from flagplans.rounds import turn_behind
from flagplans.standings import is_walk, queues_ready_at
from flagplans.steps import check_queue
from flagplans.thin import least_endless
from flagplans.turning import fewest_turning
from flagplans.wrongs import InvalidEndless, InvalidStanding

MOST_TURNS = 100
MOST_MILL_MARKS = 6


def check_new_endless_wait(plan, first, second, distance):
    """Raise an error if three values, any values, are not a wait that an endless plan could have and has not."""
    check_job(plan, first)
    check_job(plan, second)
    if first[0] == second[0]:
        raise SameQueue("both jobs belong to one queue")
    if not is_below(distance, MOST_DISTANCE + 1):
        raise InvalidNumber("not a distance from 0 to 3")
    if (first, second, distance) in plan[1]:
        raise WaitTaken((first, second, distance))
    if len(plan[1]) == MOST_ENDLESS_WAITS:
        raise TooMany("the plan has 12 waits")


class Mill:
    """A plan and the walk of its finished turns. Both are kept as tuples, so that a mark can store them as they are."""

    def __init__(self, sizes):
        if not are_endless_sizes(sizes):
            raise InvalidEndless("not the sizes of an endless plan")
        self._plan = (sizes, ())
        self._walk = ()
        self._stored = []

    def add_wait(self, first, second, distance):
        """Add a wait with which the plan is sound and the finished turns, in their order, are a walk."""
        sizes, waits = self._plan
        check_new_endless_wait(self._plan, first, second, distance)
        longer = (sizes, tuple(sorted(waits + ((first, second, distance),))))
        # A plan that would not be sound is refused by this, too.
        if not is_walk(longer, list(self._walk)):
            raise InvalidStanding("the finished turns are not those of a walk with this wait")
        self._plan = longer

    def drop_wait(self, wait):
        """Remove a wait of the plan."""
        check_endless_wait(self._plan, wait)
        sizes, waits = self._plan
        self._plan = (sizes, tuple([other for other in waits if other != wait]))

    def do(self, queue):
        """Finish the next turn of a ready queue, and return it."""
        sizes = self._plan[0]
        check_queue(sizes, queue)
        if queue not in self.ready():
            raise Blocked(queue)
        if len(self._walk) == MOST_TURNS:
            raise TooMany("100 turns are finished")
        turn = turn_behind(sizes, queue, self._walk.count(queue))
        self._walk = self._walk + (queue,)
        return turn

    def take_back(self):
        """Remove the turn that was finished last, and return it."""
        if not self._walk:
            raise NothingFinished("no turn is finished")
        turn = self.turns()[-1]
        self._walk = self._walk[:-1]
        return turn

    def mark(self):
        """Make a mark of the plan and the finished turns, and return its number."""
        if len(self._stored) == MOST_MILL_MARKS:
            raise Full(MOST_MILL_MARKS)
        self._stored.append((self._plan, self._walk))
        return len(self._stored) - 1

    def back(self, number):
        """Return to a mark, and remove all later ones."""
        if not is_below(number, len(self._stored)):
            raise InvalidMark(number)
        self._plan, self._walk = self._stored[number]
        self._stored = self._stored[:number + 1]

    def plan(self):
        """Return the plan."""
        return self._plan

    def turns(self):
        """Return the list of the finished turns in their order."""
        sizes = self._plan[0]
        return [turn_behind(sizes, queue, self._walk[:k].count(queue)) for k, queue in enumerate(self._walk)]

    def standing(self):
        """Return the standing to which the finished turns lead."""
        return tuple([self._walk.count(queue) for queue in range(len(self._plan[0]))])

    def marks(self):
        """Return the ascending list of the numbers of the marks."""
        return list(range(len(self._stored)))

    def ready(self):
        """Return the ascending list of the queues that are ready."""
        return queues_ready_at(self._plan, self.standing())

    def opened(self):
        """Return the ascending list of the tuples of a wait and a round in which it is open now."""
        sizes, waits = self._plan
        standing = self.standing()
        found = []
        for wait in waits:
            begin, end = open_span(sizes, standing, wait)
            found.extend([(wait, number) for number in range(begin, end)])
        return found

    def needed_flags(self):
        """Return the fewest turning flags of the least plan."""
        return fewest_turning(least_endless(self._plan))
