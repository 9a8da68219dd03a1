"""States with other keys or other replicas, made of given ones."""

from quorumdrift.basics import check_known
from quorumdrift.errors import OutOfRange, SharedKey
from quorumdrift.lists import swap_at
from quorumdrift.readings import read
from quorumdrift.runs import Run, swapped_pairs
from quorumdrift.states import State


def project_run(state, run, key):
    """The run of the state without the key that is left when the swaps of the key are left out."""
    orders = (state - key).lists()
    swaps = []
    for replica, x, y in swapped_pairs(state, run):
        if key not in (x, y):
            # Without the key they are neighbours as well, but perhaps at a lesser index.
            index = orders[replica].index(x)
            orders[replica] = swap_at(orders[replica], index)
            swaps.append((replica, index))
    return Run(swaps)


def insert_key(state, key, positions):
    """The state with a new key at this index of each replica."""
    if key in state:
        raise SharedKey(key)
    size = len(state)
    if any([position < 0 or position > size for position in positions]):
        raise OutOfRange(size)
    orders = [
        order[:position] + [key] + order[position:]
        for order, position in zip(state.lists(), positions)
    ]
    return State(*orders)


def cycles_with(state, key):
    """The cycles of the reading in which the key stands."""
    check_known(state.all_keys(), key)
    return [cycle for cycle in read(state).cycles() if key in cycle]


def relabel(state, names):
    """The state with each key replaced by the one that names has for it."""
    for key in state.all_keys():
        check_known(names, key)
    orders = [[names[key] for key in order] for order in state.lists()]
    return State(*orders)


def rotate(state, by):
    """The state in which replica h + by, counted around, has the list of replica h."""
    orders = state.lists()
    turned = [orders[(replica - by) % State.REPLICAS] for replica in range(State.REPLICAS)]
    return State(*turned)


def nest(outer, key, inner):
    """The state in which the key of each replica is replaced by that replica's list of the inner state."""
    rest = outer - key
    shared = [other for other in inner.all_keys() if other in rest]
    if shared:
        raise SharedKey(shared[0])
    orders = [
        order[:order.index(key)] + nested + order[order.index(key) + 1:]
        for order, nested in zip(outer.lists(), inner.lists())
    ]
    return State(*orders)


def parts(state):
    """The states of the keys of each component of the reading."""
    orders = state.lists()
    found = []
    for component in read(state).components():
        kept = [[key for key in order if key in component] for order in orders]
        found.append(State(*kept))
    return found
