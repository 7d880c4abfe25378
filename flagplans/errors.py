"""The errors that the program raises."""


class PlanError(ValueError):
    """The base class of all errors of the program."""


class InvalidPlan(PlanError):
    """A value is not a plan."""


class Unsound(PlanError):
    """A plan has a ring."""


class InvalidMoment(PlanError):
    """A value is not a possible moment of the plan."""


class InvalidFlags(PlanError):
    """A value is not flags for the plan."""


class InvalidChoices(PlanError):
    """A value is not a list of choices."""


class InvalidNumber(PlanError):
    """A value is not a number that is allowed here."""


class SameQueue(PlanError):
    """Both jobs of a wait belong to one queue."""


class RingMade(PlanError):
    """A new wait would make a ring."""


class TooMany(PlanError):
    """There is more of something than is allowed here."""


class NothingFinished(PlanError):
    """There is nothing finished that could be taken back."""


class NotACertificate(PlanError):
    """A value is not a certificate."""


# The classes below keep any value, and give Python a text of their own instead of it:
# a huge integer cannot be shown.


class UnknownJob(PlanError):
    """A value is not a job of the plan."""

    def __init__(self, job):
        PlanError.__init__(self, "not a job of the plan")
        self.job = job



class UnknownWait(PlanError):
    """A value is not a wait of the plan."""

    def __init__(self, wait):
        PlanError.__init__(self, "not a wait of the plan")
        self.wait = wait



class WaitTaken(PlanError):
    """The plan has this wait already."""

    def __init__(self, wait):
        PlanError.__init__(self, "the plan has this wait already")
        self.wait = wait



class InvalidQueue(PlanError):
    """A value is not the number of a queue."""

    def __init__(self, queue):
        PlanError.__init__(self, "not the number of a queue")
        self.queue = queue



class Ended(PlanError):
    """A queue has no more steps."""

    def __init__(self, queue):
        PlanError.__init__(self, "the queue has no more steps")
        self.queue = queue



class Blocked(PlanError):
    """A queue cannot go on now."""

    def __init__(self, queue):
        PlanError.__init__(self, "the queue is blocked")
        self.queue = queue



class FlagUp(PlanError):
    """A step would raise a flag that is up."""

    def __init__(self, flag):
        PlanError.__init__(self, "the flag is up already")
        self.flag = flag



class NotReady(PlanError):
    """A job is not ready."""

    def __init__(self, job):
        PlanError.__init__(self, "the job is not ready")
        self.job = job



class Finished(PlanError):
    """A job is finished already."""

    def __init__(self, job):
        PlanError.__init__(self, "the job is finished already")
        self.job = job



class Full(PlanError):
    """There are as many marks as are allowed."""

    def __init__(self, limit):
        PlanError.__init__(self, "no more marks are allowed")
        self.limit = limit



class InvalidMark(PlanError):
    """A value is not the number of a mark."""

    def __init__(self, number):
        PlanError.__init__(self, "not the number of a mark")
        self.number = number
