"""Which dissents follow from the pinned pairs, and which ones a replica could give up."""

from quorumdrift.dissents import dissents
from quorumdrift.readings import read
from quorumdrift.relations import Relation
from quorumdrift.states import State, check_replica


def word_relation(state, replica):
    """The Relation of what the replica says at the pinned pairs."""
    check_replica(replica)
    pinned = read(state).pinned()
    words = [(x, y) if state.says(replica, x, y) else (y, x) for x, y in pinned]
    return Relation(state.all_keys(), words)


def closed_home(state):
    """The settled state of this one, found without swaps."""
    orders = [settled_list(state, replica) for replica in range(State.REPLICAS)]
    return State(*orders)


def forced_dissents(state, replica):
    """The tuples (x, y, chain) of the forced dissents, ascending: chain leads from y to x by pinned words."""
    relation = word_relation(state, replica)
    order = settled_list(state, replica)
    return [
        (x, y, relation.path(y, x))
        for x, y in read(state).free() if order.index(y) < order.index(x)
    ]


def voluntary_dissents(state, replica):
    """The tuples (x, y) at which the replica dissents and its settled list does not, ascending."""
    found = dissents(state, replica)
    order = settled_list(state, replica)
    # No pinned pair is among them: the settled list says the same there as the replica.
    return [(x, y) for x, y in found if order.index(x) < order.index(y)]


def settled_list(state, replica):
    """The settled list of the replica: what follows from its words at pinned pairs, else what is read."""
    return list_by(word_relation(state, replica), read(state))


def list_by(relation, reading):
    """The list that has each pair as the relation implies it and, where it implies neither, as it is read."""
    keys = reading.all_keys()
    implied = {pair: True for pair in relation.closed()}
    many = {key: len([x for x in keys if comes_before(implied, reading, x, key)]) for key in keys}
    return sorted(keys, key=lambda key: many[key])


def comes_before(implied, reading, x, y):
    """True if x comes before y as it is implied or, where neither is implied, as it is read."""
    if (x, y) in implied or (y, x) in implied:
        return (x, y) in implied
    return (x, y) in reading
