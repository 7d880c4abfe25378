"""The checker of certificates.

For each kind of certificate a function returns the number of the first condition that does not hold, or None.
"""

from flagplans.errors import NotACertificate
from flagplans.flagging import clash, clash_at, is_flags
from flagplans.least import is_needed, same_runs
from flagplans.opening import waits_open_at
from flagplans.order import is_ring, is_sound
from flagplans.plans import are_waits, check_plan
from flagplans.runs import is_moment, is_run


def fault_of_ring(certificate):
    """Look at the conditions of a ring."""
    _, plan, ring = certificate
    return None if is_ring(plan, ring) else 0


def fault_of_run(certificate):
    """Look at the conditions of a run."""
    _, plan, run = certificate
    return None if is_run(plan, run) else 0


def are_some_waits(plan, value):
    """Return True if the value, any value, is an ascending tuple of different waits of the plan."""
    return are_waits(plan[0], value) and all(wait in plan[1] for wait in value)


def fault_of_least(certificate):
    """Look at the conditions of least waits."""
    _, plan, waits = certificate
    if not is_sound(plan) or not are_some_waits(plan, waits):
        return 0
    thinner = (plan[0], waits)
    if not same_runs(plan, thinner):
        return 1
    return None if all(is_needed(thinner, wait) for wait in waits) else 2


def fault_of_clash(certificate):
    """Look at the conditions of a clash, in a plan with or without rings."""
    _, plan, flags, moment = certificate
    if not is_flags(plan, flags) or not is_moment(plan, moment):
        return 0
    return None if clash_at(plan[1], flags, moment) else 1


def fault_of_fewest(certificate):
    """Look at the conditions of fewest flags."""
    _, plan, flags, moment = certificate
    if not is_sound(plan) or not is_flags(plan, flags) or not is_moment(plan, moment):
        return 0
    if clash(plan, flags) is not None:
        return 1
    return None if len(waits_open_at(plan[1], moment)) == len(set(flags)) else 2


LENGTHS = {"ring": 3, "run": 3, "least": 3, "clash": 4, "fewest": 4}
FAULTS = {
    "ring": fault_of_ring,
    "run": fault_of_run,
    "least": fault_of_least,
    "clash": fault_of_clash,
    "fewest": fault_of_fewest,
}


def is_certificate(value):
    """Return True for a tuple that begins with the name of a kind and has the right number of entries."""
    if not isinstance(value, tuple) or not value or not isinstance(value[0], str):
        return False
    return LENGTHS.get(value[0]) == len(value)


def check(certificate):
    """Return ("right",), or ("wrong", k) with the number k of the first condition that does not hold."""
    if not is_certificate(certificate):
        raise NotACertificate("not a certificate")
    check_plan(certificate[1])
    fault_of = FAULTS[certificate[0]]
    fault = fault_of(certificate)
    return ("right",) if fault is None else ("wrong", fault)
