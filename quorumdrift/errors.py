"""The errors of the package. Their constructors keep what they are given and check nothing."""


class DriftError(ValueError):
    """The base class of all errors of the package."""


class InvalidList(DriftError):
    """A replica list breaks its rule; place is the least wrong index."""

    def __init__(self, place):
        self.place = place


class UnlikeKeys(DriftError):
    """Two things that must have the same keys differ; key is the least that only one has."""

    def __init__(self, key):
        self.key = key


class UnknownKey(DriftError):
    """A key that the object does not have."""

    def __init__(self, key):
        self.key = key


class UnknownReplica(DriftError):
    """A number that is not the number of a replica."""

    def __init__(self, replica):
        self.replica = replica


class InvalidState(DriftError):
    """Lists that are no state; replica is the least one that is wrong."""

    def __init__(self, replica):
        self.replica = replica


class SharedKey(DriftError):
    """A key that two things have and only one may have."""

    def __init__(self, key):
        self.key = key


class InvalidReading(DriftError):
    """Pairs that are no reading; pair is the least wrong one."""

    def __init__(self, pair):
        self.pair = pair


class OutOfRange(DriftError):
    """A number that is below 0 or too great for the limit."""

    def __init__(self, limit):
        self.limit = limit


class TooMany(DriftError):
    """More than the limit allows."""

    def __init__(self, limit):
        self.limit = limit


class InvalidLine(DriftError):
    """A line of a text that cannot be read; lines are counted from 1."""

    def __init__(self, line):
        self.line = line


class FailedLine(DriftError):
    """A line of a text that was read but could not be done."""

    def __init__(self, line):
        self.line = line


class InvalidSwap(DriftError):
    """A swap of a replica or an index that does not exist."""

    def __init__(self, step):
        self.step = step


class AudibleSwap(DriftError):
    """A swap that would change the reading."""

    def __init__(self, step):
        self.step = step


class InvalidMove(DriftError):
    """A move of a replica or of blocks that do not exist."""


class NotReachable(DriftError):
    """No run of silent steps leads to the goal; certificate says why."""

    def __init__(self, certificate):
        self.certificate = certificate


class CannotHold(DriftError):
    """A claim that no state of the class meets beside the earlier ones."""

    def __init__(self, claim):
        self.claim = claim


class InvalidDealing(DriftError):
    """Entries that are no dealing of a reading; place is the least wrong index."""

    def __init__(self, place):
        self.place = place


class NoDealing(DriftError):
    """A dealing that no state has."""

    def __init__(self, reason):
        self.reason = reason


class NoReplica(DriftError):
    """No list fits a lost replica."""

    def __init__(self, reason):
        self.reason = reason


class InvalidSide(DriftError):
    """A name that is no side of a three-way merge."""

    def __init__(self, side):
        self.side = side


class InvalidContents(DriftError):
    """What was given describes no contents."""


class UnlikeContents(DriftError):
    """Contents that do not fit together."""


class UnknownPlace(DriftError):
    """A tuple that is no place of the contents."""

    def __init__(self, place):
        self.place = place


class InvalidChange(DriftError):
    """A step of a path that is no basic change."""

    def __init__(self, step):
        self.step = step


class AudibleChange(DriftError):
    """A change that would change the reading."""

    def __init__(self, step):
        self.step = step


class SplitPair(DriftError):
    """A pair at which at least two replicas say one thing and at least two the other."""

    def __init__(self, pair):
        self.pair = pair


class NotAMover(DriftError):
    """A replica that may not move."""

    def __init__(self, replica):
        self.replica = replica


class NothingToUndo(DriftError):
    """The history has no deed that could be taken back."""


class NothingToRedo(DriftError):
    """No deed was undone that could be done again."""


class UnknownName(DriftError):
    """A name under which nothing was saved."""

    def __init__(self, name):
        self.name = name


class InvalidOption(DriftError):
    """An option that does not exist or cannot have the value."""

    def __init__(self, option):
        self.option = option


class Full(DriftError):
    """The history has as many deeds as it may have."""

    def __init__(self, limit):
        self.limit = limit
