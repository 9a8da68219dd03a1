"""What the replicas of a state can still become by silent swaps."""

from quorumdrift.basics import check_known
from quorumdrift.dissents import dissenter
from quorumdrift.errors import CannotHold
from quorumdrift.forced import closed_home
from quorumdrift.reach import route
from quorumdrift.readings import pairs_against, read
from quorumdrift.relations import Relation
from quorumdrift.states import State, check_replica


class Freedom:
    """What the replicas have in some state of the class of the given state, and what in all of them."""

    def __init__(self, state):
        self._state = state
        self._home = closed_home(state)
        self._relations = [bound_relation(state, self._home, replica) for replica in range(State.REPLICAS)]

    def settled(self):
        """The settled state of the class."""
        return self._home

    def relation(self, replica):
        """The Relation that keeps exactly the lists that the replica can hold."""
        check_replica(replica)
        return self._relations[replica]

    def may_say(self, replica, x, y):
        """True if the replica may have x before y."""
        relation = self.relation(replica)
        check_known(self._state.all_keys(), x)
        check_known(self._state.all_keys(), y)
        return x != y and not relation.implies(y, x)

    def may_dissent(self, replica, x, y):
        """True if the replica may dissent at the pair."""
        check_replica(replica)
        if read(self._state).before(x, y):
            return self.may_say(replica, y, x)
        return self.may_say(replica, x, y)

    def fixed_pairs(self, replica):
        """The tuples (x, y), ascending, with x before y in every list that the replica can hold."""
        return self.relation(replica).closed()

    def span(self, replica, key):
        """The least and the greatest position that the key can have in the replica."""
        return self.relation(replica).span(key)

    def placed(self, replica):
        """The tuples (key, position) of the keys that can have one position only, ascending."""
        relation = self.relation(replica)
        spans = [(key, relation.span(key)) for key in self._state.all_keys()]
        return [(key, least) for key, (least, greatest) in spans if least == greatest]

    def list_count(self, replica):
        """How many lists the replica can hold."""
        return self.relation(replica).order_count()

    def can_hold(self, replica, order):
        """True if the replica can hold the list."""
        return self.relation(replica).keeps(order)

    def hold(self, *claims):
        """The state in which the claimed replicas have their lists, and the others their settled ones."""
        reading = read(self._state)
        orders = self._home.lists()
        named = []
        taken = []
        for claim, (replica, order) in enumerate(claims):
            held = self.can_hold(replica, order)
            turned = pairs_against(reading, order)
            if replica in named or not held or any([pair in taken for pair in turned]):
                raise CannotHold(claim)
            named.append(replica)
            taken.extend(turned)
            orders[replica] = order
        return State(*orders)

    def show(self, replica, x, y):
        """A run of silent swaps to a state in which the replica has x before y, or None."""
        if not self.may_say(replica, x, y):
            return None
        wanted = self.relation(replica) + Relation(self._state.all_keys(), [(x, y)])
        return route(self._state, self.hold((replica, wanted.least_order())))


def bound_relation(state, home, replica):
    """The Relation of what the replica cannot give up: its own pinned dissents, and the settled ones of the others."""
    reading = read(state)
    own = [(y, x) for x, y in reading.pinned() if dissenter(state, x, y) == replica]
    others = [(x, y) for x, y in reading.pairs() if dissenter(home, x, y) not in (None, replica)]
    return Relation(state.all_keys(), own + others)
