"""The runner: queues that carry out steps for ever, and signal their waits with turning flags."""

from flagplans.errors import Blocked, FlagUp, TooMany
from flagplans.rounds import turn_behind
from flagplans.standings import walk_to
from flagplans.steps import check_queue
from flagplans.turning import flag_in, is_turning, turning_clash
from flagplans.wrongs import InvalidTurning

MOST_STEPS = 2000


def steps_of_turn(waits, turn):
    """Return the list of the steps of a turn."""
    job, number = turn
    lowering = [("lower", wait, number - wait[2]) for wait in waits if wait[1] == job and wait[2] <= number]
    raising = [("raise", wait, number) for wait in waits if wait[0] == job]
    return lowering + [("do", job, number)] + raising


def flag_of_step(waits, flags, step):
    """Return the flag that a step raises or lowers."""
    _, wait, number = step
    return flag_in(flags[waits.index(wait)], number)


class Runner:
    """The steps that the queues have carried out, and the flags that are up, with what they show."""

    def __init__(self, plan, flags):
        if not is_turning(plan, flags):
            raise InvalidTurning("not turning flags for the plan")
        self._plan = plan
        self._flags = flags
        # For each queue: so many turns are behind it, and so many steps of the turn in which it is.
        self._reached = [(0, 0) for _ in plan[0]]
        self._shown = {}
        self._finished = []
        self._many = 0

    def _steps_now(self, queue):
        """Return the list of the steps of the turn in which a queue is."""
        sizes, waits = self._plan
        return steps_of_turn(waits, turn_behind(sizes, queue, self._reached[queue][0]))

    def _go_on(self, queue):
        """Put a queue behind its next step."""
        many, k = self._reached[queue]
        last = k + 1 == len(self._steps_now(queue))
        self._reached[queue] = (many + 1, 0) if last else (many, k + 1)
        self._many += 1

    def _carry_out(self, step):
        """Do what a step of a queue does that is not blocked and does not clash."""
        kind, what, number = step
        if kind == "do":
            self._finished.append((what, number))
        elif kind == "raise":
            self._shown[flag_of_step(self._plan[1], self._flags, step)] = (what, number)
        else:
            self._shown.pop(flag_of_step(self._plan[1], self._flags, step))

    def _is_blocked(self, queue):
        """Return True if a queue is blocked."""
        step = self.next_step(queue)
        if step[0] != "lower":
            return False
        return self._shown.get(flag_of_step(self._plan[1], self._flags, step)) != step[1:]

    def _clashes(self, queue):
        """Return True if a queue clashes."""
        step = self.next_step(queue)
        return step[0] == "raise" and flag_of_step(self._plan[1], self._flags, step) in self._shown

    def step(self, queue):
        """Carry out the next step of a queue, and return it."""
        step = self.next_step(queue)
        if self._is_blocked(queue):
            raise Blocked(queue)
        if self._clashes(queue):
            raise FlagUp(flag_of_step(self._plan[1], self._flags, step))
        if self._many == MOST_STEPS:
            raise TooMany("2000 steps are carried out")
        self._go_on(queue)
        self._carry_out(step)
        return step

    def next_step(self, queue):
        """Return the next step of a queue."""
        check_queue(self._reached, queue)
        return self._steps_now(queue)[self._reached[queue][1]]

    def blocked(self):
        """Return the ascending list of the queues that are blocked."""
        return [queue for queue in range(len(self._reached)) if self._is_blocked(queue)]

    def clashing(self):
        """Return the ascending list of the queues that clash."""
        return [queue for queue in range(len(self._reached)) if self._clashes(queue)]

    def up(self):
        """Return the ascending list of the tuples (flag, wait, round) of the flags that are up and what they show."""
        return sorted([(flag, wait, number) for flag, (wait, number) in self._shown.items()])

    def turns(self):
        """Return the list of the turns that are done, in their order."""
        return list(self._finished)

    def standing(self):
        """Return the tuple of the numbers of turns that the queues have done."""
        queues = [job[0] for job, _ in self._finished]
        return tuple([queues.count(queue) for queue in range(len(self._reached))])


def steps_along(plan, walk):
    """Return the list of the steps of the turns of a walk, turn by turn, each in a tuple behind its queue."""
    done = [0 for _ in plan[0]]
    found = []
    for queue in walk:
        turn = turn_behind(plan[0], queue, done[queue])
        found.extend([(queue, step) for step in steps_of_turn(plan[1], turn)])
        done[queue] += 1
    return found


def clashing_choices(plan, flags):
    """Return a list of queues whose steps end with a clash, or None if the flags are clean."""
    clash = turning_clash(plan, flags)
    if clash is None:
        return None
    raised = {}
    choices = []
    # Turn by turn no queue is ever blocked, and at the standing of the clash one flag would be up for both waits.
    for queue, step in steps_along(plan, walk_to(plan, clash[0])):
        choices.append(queue)
        if step[0] == "do":
            continue
        flag = flag_of_step(plan[1], flags, step)
        if step[0] == "lower":
            raised.pop(flag)
        elif flag in raised:
            break
        else:
            raised[flag] = True
    return choices
