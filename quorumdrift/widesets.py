"""Four to seven replicas under the same rule: a swap is silent if all other replicas agree about its keys."""

from quorumdrift.basics import check_known, check_like_keys, pairs_in
from quorumdrift.errors import AudibleSwap, InvalidState, InvalidSwap, NotReachable, SplitPair, UnknownReplica
from quorumdrift.errors import UnlikeContents
from quorumdrift.lists import swap_at
from quorumdrift.runs import Run
from quorumdrift.states import first_wrong_replica

LEAST_REPLICAS = 4
MOST_REPLICAS = 7


class WideSet:
    """The lists of four to seven replicas; about no two keys do two of them stand against two others."""

    def __init__(self, *orders):
        if len(orders) < LEAST_REPLICAS or len(orders) > MOST_REPLICAS:
            raise InvalidState(len(orders))
        replica = first_wrong_replica(orders)
        if replica is not None:
            raise InvalidState(replica)
        self._lists = [list(order) for order in orders]
        for pair in pairs_in(self.all_keys()):
            if is_split(self._words(pair)):
                raise SplitPair(pair)

    def list_of(self, replica):
        """The list of the replica."""
        if replica < 0 or replica >= len(self._lists):
            raise UnknownReplica(replica)
        return list(self._lists[replica])

    def lists(self):
        """The list of the lists of all replicas."""
        return [list(order) for order in self._lists]

    def all_keys(self):
        """The keys, ascending."""
        return sorted(self._lists[0])

    def order(self):
        """The list that has each pair as all replicas but at most one have it."""
        all_keys = self.all_keys()
        # At most one replica stands against the others, so what two of them say holds.
        earlier = {key: [x for x in all_keys if self._words((x, key)).count(True) > 1] for key in all_keys}
        return sorted(all_keys, key=lambda key: len(earlier[key]))

    def dissenter(self, x, y):
        """The replica that stands against all others about the two keys, or None."""
        check_known(self._lists[0], x)
        check_known(self._lists[0], y)
        words = self._words((x, y))
        for word in (True, False):
            if words.count(word) == 1:
                return words.index(word)
        return None

    def silent_swaps(self):
        """The silent swaps, ascending."""
        return [swap for swap in self._all_swaps() if self._is_silent(swap)]

    def played(self, run):
        """The WideSet after all swaps of the run."""
        now = self
        for step, swap in enumerate(run.steps()):
            if swap not in now._all_swaps():
                raise InvalidSwap(step)
            if not now._is_silent(swap):
                raise AudibleSwap(step)
            now = now._swapped(swap)
        return now

    def home_run(self):
        """The run of the first homeward swap, again and again, until there is none."""
        order = self.order()
        now = self
        swaps = []
        choices = now._homeward(order)
        while choices:
            swaps.append(choices[0])
            now = now._swapped(choices[0])
            choices = now._homeward(order)
        return Run(swaps)

    def comes_to(self, other):
        """True if silent swaps lead from this one to the other one."""
        self._check_like(other)
        return self.order() == other.order()

    def route_to(self, other):
        """A run of silent swaps from this one to the other one, by way of equal lists."""
        self._check_like(other)
        mine = self.order()
        theirs = other.order()
        for x, y in pairs_in(self.all_keys()):
            if (mine.index(x) < mine.index(y)) != (theirs.index(x) < theirs.index(y)):
                raise NotReachable((x, y))
        return self.home_run() + (-other.home_run())

    def __eq__(self, other):
        return isinstance(other, WideSet) and self._lists == other._lists

    def _check_like(self, other):
        if len(self._lists) != len(other._lists):
            raise UnlikeContents()
        check_like_keys(self._lists[0], other._lists[0])

    def _words(self, pair):
        x, y = pair
        return [order.index(x) < order.index(y) for order in self._lists]

    def _all_swaps(self):
        indexes = list(range(len(self._lists[0]) - 1))
        return [(replica, index) for replica in range(len(self._lists)) for index in indexes]

    def _pair(self, swap):
        replica, index = swap
        return (self._lists[replica][index], self._lists[replica][index + 1])

    def _is_silent(self, swap):
        x, y = self._pair(swap)
        return self.dissenter(x, y) in (None, swap[0])

    def _homeward(self, order):
        pairs = [(swap, self._pair(swap)) for swap in self._all_swaps()]
        return [swap for swap, (x, y) in pairs if order.index(y) < order.index(x)]

    def _swapped(self, swap):
        replica, index = swap
        orders = list(self._lists)
        orders[replica] = swap_at(orders[replica], index)
        return WideSet(*orders)


def is_split(words):
    """True if at least two replicas say one thing and at least two the other."""
    return words.count(True) > 1 and words.count(False) > 1
