"""What a lost replica held, by the two others and the reading of all three."""

from quorumdrift.basics import check_like_keys
from quorumdrift.errors import NoReplica
from quorumdrift.forced import settled_list
from quorumdrift.lists import check_list, check_two_lists
from quorumdrift.readings import pairs_against, read
from quorumdrift.relations import Relation
from quorumdrift.states import State

LOST = 2


class LostReplica:
    """The lists of two replicas and the reading of all three, without the list of the third."""

    def __init__(self, first, second, reading):
        check_two_lists(first, second)
        check_like_keys(first, reading.all_keys())
        self._first = list(first)
        self._second = list(second)
        self._reading = reading

    def relation(self):
        """The Relation of the pairs, as they are read, at which one of the two lists says the opposite."""
        first = pairs_against(self._reading, self._first)
        second = pairs_against(self._reading, self._second)
        return Relation(self._reading.all_keys(), first + second)

    def fault(self):
        """None if some list fits, otherwise why none does."""
        second = pairs_against(self._reading, self._second)
        for x, y in pairs_against(self._reading, self._first):
            if (x, y) in second:
                return ("both", x, y)
        keys = self.relation().cycle()
        if keys is None:
            return None
        return ("cycle", tuple(keys))

    def accepts(self, order):
        """True if the list fits: if it is read so together with the two others."""
        check_list(order)
        check_like_keys(self._first, order)
        return read(State(self._first, self._second, order)) == self._reading

    def order_count(self):
        """How many lists fit."""
        if self.fault() is not None:
            return 0
        return self.relation().order_count()

    def least(self):
        """The least list that fits."""
        reason = self.fault()
        if reason is not None:
            raise NoReplica(reason)
        return self.relation().least_order()

    def settled_list(self):
        """The settled list of the third replica, whichever list that fits it has."""
        return settled_list(self.state(), LOST)

    def state(self):
        """The state of the two lists and the least that fits."""
        return State(self._first, self._second, self.least())
