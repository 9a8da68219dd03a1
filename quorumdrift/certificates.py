"""Reasons why no run of silent swaps leads from one state to another."""

from quorumdrift.dissents import dissenter
from quorumdrift.readings import read
from quorumdrift.states import State


class Certificate:
    """A reason; the base class names none."""

    def holds(self, start, goal, *, movers=(0, 1, 2)):
        """True if the reason is right for these states."""
        return False

    def text(self):
        """The reason in words."""
        return "not reachable"


class ReadOtherwise(Certificate):
    """The two states are read otherwise at a pair."""

    def __init__(self, pair):
        self.pair = pair

    def holds(self, start, goal, *, movers=(0, 1, 2)):
        """True if both states have the two keys, and the first is read before the second in one of them only."""
        if not both_have(start, goal, self.pair):
            return False
        return (self.pair in read(start)) != (self.pair in read(goal))

    def text(self):
        """The reason in words."""
        x, y = self.pair
        return super().text() + f": read otherwise at {x} {y}"

    def __eq__(self, other):
        return isinstance(other, ReadOtherwise) and self.pair == other.pair


class DealtOtherwise(Certificate):
    """Other replicas dissent at the pairs of a cycle that both states have."""

    def __init__(self, triple):
        self.triple = triple

    def holds(self, start, goal, *, movers=(0, 1, 2)):
        """True if the keys are such a cycle, in this direction."""
        if not (is_cycle(start, self.triple) and is_cycle(goal, self.triple)):
            return False
        return dealt_apart(start, goal, self.triple)

    def text(self):
        """The reason in words."""
        x, y, z = self.triple
        return super().text() + f": dealt otherwise in {x} {y} {z}"

    def __eq__(self, other):
        return isinstance(other, DealtOtherwise) and self.triple == other.triple


class NotAllowed(Certificate):
    """A replica that may not move says different things in the two states."""

    def __init__(self, replica, pair):
        self.replica = replica
        self.pair = pair

    def holds(self, start, goal, *, movers=(0, 1, 2)):
        """True if the replica is no mover and has the two keys the other way about."""
        if self.replica not in range(State.REPLICAS) or self.replica in movers:
            return False
        if not both_have(start, goal, self.pair):
            return False
        x, y = self.pair
        return start.says(self.replica, x, y) != goal.says(self.replica, x, y)

    def text(self):
        """The reason in words."""
        x, y = self.pair
        return super().text() + f": replica {self.replica} differs at {x} {y}"

    def __eq__(self, other):
        return isinstance(other, NotAllowed) and self.replica == other.replica and self.pair == other.pair


def both_have(start, goal, keys):
    """True if both states have all of the keys."""
    return all([key in start and key in goal for key in keys])


def is_cycle(state, triple):
    """True if the state has the three keys, and they are a cycle in this direction."""
    reading = read(state)
    return all([pair in reading for pair in sides_of(triple)])


def dealt_apart(start, goal, triple):
    """True if the two states have different dissenters at one of the pairs of the three keys."""
    return any([dissenter(start, x, y) != dissenter(goal, x, y) for x, y in sides_of(triple)])


def sides_of(triple):
    """The three pairs of a cycle, each as it is read."""
    x, y, z = triple
    return [(x, y), (y, z), (z, x)]
