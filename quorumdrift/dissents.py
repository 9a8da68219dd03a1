"""Which replica says the opposite of the reading, and where."""

from quorumdrift.readings import read
from quorumdrift.states import State, check_replica


def dissenter(state, x, y):
    """The replica that says the opposite of both others about the two keys, or None."""
    words = [state.says(replica, x, y) for replica in range(State.REPLICAS)]
    for word in (True, False):
        if words.count(word) == 1:
            return words.index(word)
    return None


def dissents(state, replica):
    """The tuples (x, y) with x read before y at which the replica dissents, ascending."""
    check_replica(replica)
    return [(x, y) for x, y in read(state).pairs() if state.says(replica, y, x)]


def dealing(state):
    """The tuples (x, y, replica), one for each pinned pair, with the replica that dissents, ascending."""
    return [(x, y, dissenter(state, x, y)) for x, y in read(state).pinned()]
