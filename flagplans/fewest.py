"""The fewest flags that never clash.

The waits are put into as few chains as possible, in which each wait closes before the next one opens. The waits of a
chain have one flag. No fewer flags are enough: there are as many chains as there are waits that are open together.
"""

from flagplans.flagging import closes_before
from flagplans.order import check_sound, later_jobs


def numbers_behind(later, waits, wait):
    """Return the ascending list of the numbers of the waits before whose opening a wait closes."""
    return [number for number, other in enumerate(waits) if closes_before(later, wait, other)]


def go_on(behind, ahead, number, tried):
    """Find a next wait in the chain for a wait, and return True if there is one.

    A wait that has a wait ahead of it already is taken if the wait ahead finds another next one.
    """
    for other in behind[number]:
        if other not in tried:
            tried[other] = True
            if ahead[other] is None or go_on(behind, ahead, ahead[other], tried):
                ahead[other] = number
                return True
    return False


def chains(plan):
    """Return a list with the number of the wait ahead in the chain, for each wait of a sound plan, or None."""
    later = later_jobs(plan)
    behind = [numbers_behind(later, plan[1], wait) for wait in plan[1]]
    ahead = [None for _ in plan[1]]
    for number in range(len(behind)):
        go_on(behind, ahead, number, {})
    return ahead


def head_of(ahead, number):
    """Return the number of the wait with which the chain of a wait begins."""
    head = number
    while ahead[head] is not None:
        head = ahead[head]
    return head


def fewest_flags(plan):
    """Return the least number of different flags in clean flags for a sound plan."""
    check_sound(plan)
    return chains(plan).count(None)


def assign_flags(plan):
    """Return clean flags for a sound plan that use just the numbers below the fewest flags."""
    check_sound(plan)
    ahead = chains(plan)
    heads = [number for number, leader in enumerate(ahead) if leader is None]
    return tuple([heads.index(head_of(ahead, number)) for number in range(len(ahead))])
