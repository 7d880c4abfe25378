"""The steps of queues that signal their waits with flags."""

from flagplans.errors import Blocked, Ended, FlagUp, InvalidChoices, InvalidFlags, InvalidQueue
from flagplans.flagging import is_flags
from flagplans.plans import is_below


def check_queue(queues, value):
    """Raise InvalidQueue if the value, any value, is not the number of one of these queues."""
    if not is_below(value, len(queues)):
        raise InvalidQueue(value)


def steps_of_job(flagged, job):
    """Return the list of the steps of a job, where flagged is the ascending list of the waits with their flags."""
    lowering = [("lower", flag, wait) for wait, flag in flagged if wait[1] == job]
    raising = [("raise", flag, wait) for wait, flag in flagged if wait[0] == job]
    return lowering + [("do", job)] + raising


def steps_of_queue(flagged, queue, size):
    """Return the list of the steps of a queue with so many jobs."""
    row = []
    for place in range(size):
        row.extend(steps_of_job(flagged, (queue, place)))
    return row


def steps(plan, flags):
    """Return a list with the list of the steps of each queue, for a plan with or without rings."""
    if not is_flags(plan, flags):
        raise InvalidFlags("not flags for the plan")
    flagged = list(zip(plan[1], flags))
    return [steps_of_queue(flagged, queue, size) for queue, size in enumerate(plan[0])]


def next_step(rows, reached, queue):
    """Return the next step of a queue, any value, of which so many steps of its row are carried out."""
    check_queue(rows, queue)
    if reached[queue] == len(rows[queue]):
        raise Ended(queue)
    return rows[queue][reached[queue]]


def move_flag(shown, queue, step):
    """Raise or lower the flag of a step. The dict shown has the flags that are up, with the waits that they show."""
    kind, flag, wait = step
    if kind == "lower":
        if shown.get(flag) != wait:
            raise Blocked(queue)
        shown.pop(flag)
    else:
        if flag in shown:
            raise FlagUp(flag)
        shown[flag] = wait


def walk(plan, flags, choices):
    """Carry out the next step of each queue of a list, and return the jobs that were done and the flags that are up."""
    rows = steps(plan, flags)
    if not isinstance(choices, list):
        raise InvalidChoices("choices are not a list")
    reached = [0 for _ in rows]
    shown = {}
    done = []
    for queue in choices:
        step = next_step(rows, reached, queue)
        if step[0] == "do":
            done.append(step[1])
        else:
            move_flag(shown, queue, step)
        reached[queue] += 1
    return tuple(done), tuple(sorted(shown))
