"""The workspace: a sound plan that grows, the beginning of a run of it, and marks to return to."""

from flagplans.changes import check_new_wait, with_wait
from flagplans.errors import Finished, Full, InvalidMark, InvalidNumber, NothingFinished, NotReady, TooMany
from flagplans.fewest import fewest_flags
from flagplans.least import least_plan, least_waits
from flagplans.opening import waits_open_at
from flagplans.plans import MOST_PLACES, MOST_QUEUES, check_job, is_below
from flagplans.progress import awaited_jobs, is_finished, ready_jobs
from flagplans.steps import check_queue

MOST_MARKS = 6


class Workspace:
    """A plan and its finished jobs. Both are kept as tuples, so that a mark can store them as they are."""

    def __init__(self, number):
        if not is_below(number, MOST_QUEUES + 1) or number == 0:
            raise InvalidNumber("not a number from 1 to 4")
        self._plan = ((0,) * number, ())
        self._done = ()
        self._stored = []

    def _moment(self):
        """Return the moment at which just the finished jobs are finished."""
        queues = [job[0] for job in self._done]
        return tuple([queues.count(queue) for queue in range(len(self._plan[0]))])

    def _check_unfinished(self, job):
        """Raise Finished if a job of the plan is finished."""
        if is_finished(self._moment(), job):
            raise Finished(job)

    def add_job(self, queue):
        """Add a job to the end of a queue, and return it."""
        sizes, waits = self._plan
        check_queue(sizes, queue)
        size = sizes[queue]
        if size == MOST_PLACES:
            raise TooMany("the queue has 6 jobs")
        self._plan = (sizes[:queue] + (size + 1,) + sizes[queue + 1:], waits)
        return queue, size

    def add_wait(self, first, second):
        """Add a wait of the second job, which is not finished, for the first one."""
        check_new_wait(self._plan, first, second)
        self._check_unfinished(second)
        self._plan = with_wait(self._plan, (first, second))

    def finish(self, job):
        """Add a ready job to the finished ones."""
        check_job(self._plan, job)
        self._check_unfinished(job)
        if job not in self.ready():
            raise NotReady(job)
        self._done = self._done + (job,)

    def take_back(self):
        """Remove the job that was finished last from the finished ones, and return it."""
        if not self._done:
            raise NothingFinished("no job is finished")
        job = self._done[-1]
        self._done = self._done[:-1]
        return job

    def mark(self):
        """Make a mark of the plan and the finished jobs, and return its number."""
        if len(self._stored) == MOST_MARKS:
            raise Full(MOST_MARKS)
        self._stored.append((self._plan, self._done))
        return len(self._stored) - 1

    def back(self, number):
        """Return to a mark, and remove all later ones."""
        if not is_below(number, len(self._stored)):
            raise InvalidMark(number)
        self._plan, self._done = self._stored[number]
        self._stored = self._stored[:number + 1]

    def plan(self):
        """Return the plan."""
        return self._plan

    def finished(self):
        """Return the list of the finished jobs in their order."""
        return list(self._done)

    def marks(self):
        """Return the ascending list of the numbers of the marks."""
        return list(range(len(self._stored)))

    def ready(self):
        """Return the ascending list of the jobs that are ready."""
        sizes, waits = self._plan
        return ready_jobs(awaited_jobs(sizes, waits), self._moment())

    def open_waits(self):
        """Return the ascending list of the least waits that are open now."""
        return waits_open_at(least_waits(self._plan), self._moment())

    def flags_needed(self):
        """Return the fewest flags of the plan with the least waits."""
        return fewest_flags(least_plan(self._plan))
