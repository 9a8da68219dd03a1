"""The states of one class."""

from quorumdrift.errors import TooMany
from quorumdrift.freedom import Freedom
from quorumdrift.readings import pairs_against, read
from quorumdrift.relations import Relation
from quorumdrift.states import State


def class_size(state, *, limit=10000):
    """The number of states in the class of this one."""
    freedom = Freedom(state)
    product = 1
    for replica in range(State.REPLICAS):
        product = product * freedom.list_count(replica)
    if product > limit:
        raise TooMany(limit)
    first, second, third = [dissent_sets(state, freedom, replica) for replica in range(State.REPLICAS)]
    many = 0
    counted = {}
    for taken in [mine | theirs for mine in first for theirs in second if mine & theirs == 0]:
        if taken not in counted:
            counted[taken] = len([others for others in third if others & taken == 0])
        many += counted[taken]
    return many


def each_member(state):
    """Yield the states of the class of this one, ascending by their lists."""
    freedom = Freedom(state)
    reading = read(state)
    relation = freedom.relation(0)
    for first in relation.each_order():
        # Beside any list that a replica can hold the others have their settled ones, so no beginning is in vain.
        second_relation = freedom.relation(1) + spared(reading, first)
        for second in second_relation.each_order():
            third_relation = freedom.relation(2) + spared(reading, first) + spared(reading, second)
            for third in third_relation.each_order():
                yield State(first, second, third)


def dissent_sets(state, freedom, replica):
    """For each list that the replica can hold, the pairs at which it dissents, as the bits of a number."""
    reading = read(state)
    bits = {pair: 1 << place for place, pair in enumerate(reading.pairs())}
    relation = freedom.relation(replica)
    return [sum([bits[pair] for pair in pairs_against(reading, order)]) for order in relation.each_order()]


def spared(reading, order):
    """The Relation of the pairs at which the list dissents, as they are read: no other replica may dissent there."""
    return Relation(reading.all_keys(), pairs_against(reading, order))
