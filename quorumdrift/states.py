"""Three replica lists of the same keys."""

from quorumdrift.basics import check_known, first_wrong_place, number_in
from quorumdrift.errors import InvalidLine, InvalidState, SharedKey, UnknownReplica


class State:
    """The lists of the three replicas."""

    REPLICAS = 3

    def __init__(self, first, second, third):
        orders = [first, second, third]
        replica = first_wrong_replica(orders)
        if replica is not None:
            raise InvalidState(replica)
        self._lists = [list(order) for order in orders]

    @classmethod
    def of(cls, *orders):
        """The state of exactly three lists."""
        if len(orders) != cls.REPLICAS:
            raise InvalidState(min(len(orders), cls.REPLICAS))
        return cls(orders[0], orders[1], orders[2])

    @staticmethod
    def same(order):
        """The state of three equal lists."""
        return State(order, order, order)

    @classmethod
    def read(cls, text):
        """The state whose text this is."""
        orders = [keys_in(part) for part in text.split(" / ")]
        if len(orders) != cls.REPLICAS or None in orders or first_wrong_replica(orders) is not None:
            raise InvalidLine(1)
        return cls(orders[0], orders[1], orders[2])

    def list_of(self, replica):
        """The list of the replica."""
        check_replica(replica)
        return list(self._lists[replica])

    def lists(self):
        """The list of the three lists."""
        return [list(order) for order in self._lists]

    def all_keys(self):
        """The keys, ascending."""
        return sorted(self._lists[0])

    def says(self, replica, x, y):
        """True if x stands before y in the replica."""
        return self.position(replica, x) < self.position(replica, y)

    def position(self, replica, key):
        """The index of the key in the replica."""
        check_replica(replica)
        check_known(self._lists[replica], key)
        return self._lists[replica].index(key)

    def with_list(self, replica, order):
        """The state with another list for the replica."""
        check_replica(replica)
        if not is_list_of(self.all_keys(), order):
            raise InvalidState(replica)
        orders = list(self._lists)
        orders[replica] = order
        return State(*orders)

    def __eq__(self, other):
        return isinstance(other, State) and self._lists == other._lists

    def __len__(self):
        return len(self._lists[0])

    def __contains__(self, x):
        return x in self._lists[0]

    def __add__(self, other):
        shared = sorted(set(self._lists[0]) & set(other._lists[0]))
        if shared:
            raise SharedKey(shared[0])
        orders = [mine + theirs for mine, theirs in zip(self._lists, other._lists)]
        return State(*orders)

    def __sub__(self, other):
        check_known(self._lists[0], other)
        orders = [[key for key in order if key != other] for order in self._lists]
        return State(*orders)

    def __neg__(self):
        orders = [order[::-1] for order in self._lists]
        return State(*orders)

    def __str__(self):
        return " / ".join([" ".join([str(key) for key in order]) for order in self._lists])


def check_replica(replica):
    """Raise UnknownReplica unless this is the number of a replica."""
    if replica < 0 or replica >= State.REPLICAS:
        raise UnknownReplica(replica)


def check_replicas(replicas):
    """Raise UnknownReplica for the first number that is not the number of a replica."""
    for replica in replicas:
        check_replica(replica)


def is_list_of(all_keys, order):
    """True if the order is a replica list of the keys, which are given ascending."""
    return first_wrong_place(order) is None and sorted(order) == all_keys


def first_wrong_replica(orders):
    """The least index of a list that is no replica list or has other keys than the first one, or None."""
    all_keys = sorted(orders[0])
    for replica, order in enumerate(orders):
        if not is_list_of(all_keys, order):
            return replica
    return None


def keys_in(text):
    """The keys that a text names, parted by single spaces, or None if it is not such a text."""
    if text == "":
        return []
    numbers = [number_in(word) for word in text.split(" ")]
    if None in numbers:
        return None
    return numbers
