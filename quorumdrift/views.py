"""States and Trios side by side."""

from quorumdrift.basics import check_like_keys, pairs_in
from quorumdrift.dependencysets import DependencySet
from quorumdrift.errors import InvalidOption, UnlikeContents
from quorumdrift.lists import swap_at
from quorumdrift.orderlists import OrderList
from quorumdrift.paths import trio_reaches
from quorumdrift.runs import swapped_pairs
from quorumdrift.states import State
from quorumdrift.tierlists import TierList
from quorumdrift.trios import Trio

KINDS = ("orders", "dependencies", "tiers")


def as_trio(state, kind):
    """The Trio of the three lists as contents of this kind."""
    check_kind(kind)
    contents = [as_contents(order, kind) for order in state.lists()]
    return Trio(*contents)


def view_path(state, run, kind):
    """The path that the Trio of this kind goes while the run is played from the state."""
    # The Trio is not needed, but its errors come first.
    as_trio(state, kind)
    orders = state.lists()
    path = []
    for replica, x, y in swapped_pairs(state, run):
        order = orders[replica]
        orders[replica] = swap_at(order, order.index(x))
        path.extend([(replica, contents) for contents in between(order, (x, y), kind)])
        path.append((replica, as_contents(orders[replica], kind)))
    return path


def kinds_reach(start, goal):
    """The tuple of trio_reaches for the two states as contents of each kind."""
    check_like_keys(start.all_keys(), goal.all_keys())
    return tuple([trio_reaches(as_trio(start, kind), as_trio(goal, kind)) for kind in KINDS])


def loosen(trio):
    """The Trio of DependencySets that has the words of a Trio of TierLists."""
    tiers = [trio.contents_of(replica) for replica in range(State.REPLICAS)]
    if not isinstance(tiers[0], TierList):
        raise UnlikeContents()
    loose = [DependencySet(contents.all_keys(), contents.words()) for contents in tiers]
    return Trio(*loose)


def check_kind(kind):
    """Raise InvalidOption unless this is the name of a kind."""
    if kind not in KINDS:
        raise InvalidOption(kind)


def as_contents(order, kind):
    """The list as contents of this kind."""
    if kind == OrderList.KIND:
        return OrderList(order)
    if kind == DependencySet.KIND:
        return DependencySet(order, pairs_in(order))
    return TierList([[key] for key in order])


def between(order, pair, kind):
    """The contents, none or one, that stand between the list and the one in which the pair is exchanged."""
    if kind == OrderList.KIND:
        return []
    if kind == DependencySet.KIND:
        return [DependencySet(order, [other for other in pairs_in(order) if other != pair])]
    x, y = pair
    return [TierList([[key, y] if key == x else [key] for key in order if key != y])]
