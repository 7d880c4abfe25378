"""The errors that the program raises for endless plans."""

from flagplans.errors import PlanError


class InvalidEndless(PlanError):
    """A value is not an endless plan."""


class InvalidStanding(PlanError):
    """A value is not a possible standing of the plan."""


class InvalidTurn(PlanError):
    """A value is not a turn of the plan."""


class InvalidTour(PlanError):
    """A value is not a tour of the plan."""


class InvalidTurning(PlanError):
    """A value is not turning flags for the plan."""


class InvalidDurations(PlanError):
    """A value is not durations of the plan."""


class InvalidFraction(PlanError):
    """A value is not a fraction."""


class NotARecord(PlanError):
    """A value is not a record."""


# The classes below keep any value, and give Python a text of their own instead of it:
# a huge integer cannot be shown.


class Stuck(PlanError):
    """An endless plan has a circle of the distance 0."""

    def __init__(self, circle):
        PlanError.__init__(self, "the plan has a circle of the distance 0")
        self.circle = circle


class NotHeld(PlanError):
    """A wait of an endless plan lies on no circle."""

    def __init__(self, wait):
        PlanError.__init__(self, "no row leads back from the second job of the wait")
        self.wait = wait
