"""Runs: swaps made one after the other."""

from quorumdrift.basics import number_in
from quorumdrift.errors import AudibleSwap, InvalidLine, InvalidSwap
from quorumdrift.states import State, check_replica
from quorumdrift.swaps import apply_step, swap_pair


class Run:
    """Swaps to be made one after the other; they are looked at only when the run is played."""

    def __init__(self, swaps):
        self._swaps = list(swaps)

    @classmethod
    def of(cls, *swaps):
        """The run of these swaps."""
        return cls(swaps)

    @classmethod
    def read(cls, text):
        """The run whose text this is."""
        swaps = swaps_in(text)
        if None in swaps:
            raise InvalidLine(1)
        return cls(swaps)

    def steps(self):
        """The list of the swaps."""
        return list(self._swaps)

    def shares(self):
        """How many of the swaps name replica 0, 1 and 2."""
        named = [swap[0] for swap in self._swaps]
        return tuple([named.count(replica) for replica in range(State.REPLICAS)])

    def only(self, replica):
        """The run of the swaps of this replica, in their order."""
        check_replica(replica)
        return Run([swap for swap in self._swaps if swap[0] == replica])

    def __eq__(self, other):
        return isinstance(other, Run) and self._swaps == other._swaps

    def __len__(self):
        return len(self._swaps)

    def __add__(self, other):
        return Run(self._swaps + other._swaps)

    def __neg__(self):
        return Run(self._swaps[::-1])

    def __mul__(self, other):
        return Run(self._swaps * other)

    def __str__(self):
        return " ".join([f"{replica}.{index}" for replica, index in self._swaps])


def play(state, run):
    """The state after all swaps of the run."""
    end = state
    for later in each_state(state, run):
        end = later
    return end


def first_fault(state, run):
    """The step of the first swap that is invalid or audible at its turn, and which of both; or None."""
    try:
        play(state, run)
    except InvalidSwap as invalid:
        return (invalid.step, "invalid")
    except AudibleSwap as audible:
        return (audible.step, "audible")
    return None


def each_state(state, run):
    """Yield the given state, then the state after each swap."""
    now = state
    yield now
    for step, swap in enumerate(run.steps()):
        now = apply_step(now, swap, step)
        yield now


def swapped_pairs(state, run):
    """For each swap of the run the tuple (replica, x, y): x stood directly before y."""
    states = list(each_state(state, run))
    found = []
    # The last state stands before no swap, so zip leaves it out.
    for now, swap in zip(states, run.steps()):
        x, y = swap_pair(now, swap)
        found.append((swap[0], x, y))
    return found


def swaps_in(text):
    """The swaps that a text names, parted by single spaces, with None for each word that is no swap."""
    if text == "":
        return []
    return [swap_in(word) for word in text.split(" ")]


def swap_in(word):
    """The swap that a word writes as replica.index, or None."""
    numbers = [number_in(part) for part in word.split(".")]
    if len(numbers) != 2 or None in numbers:
        return None
    return (numbers[0], numbers[1])
