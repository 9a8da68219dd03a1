"""The document's words ([2]) once more, over plain lists, and states to try them on."""

import random
from itertools import combinations, permutations, product

from quorumdrift.states import State
from tests.helpers import shuffled, stands_before

WRONG_REPLICAS = (-10000, -3, -2, -1, 3, 4, 10000)


def state_of(size, seed):
    """A state that the numbers alone decide; every second one has lists that are not far from each other."""
    keys = shuffled([7, 0, 9999, 12, 3, 100, 41, 5, 2000, 64, 9, 1], 13)[:size]
    if seed % 2:
        return State(*[shuffled(keys, 3 * seed + replica) for replica in range(3)])
    return State(*[partly_shuffled(keys, 3 * seed + replica) for replica in range(3)])


def partly_shuffled(keys, seed):
    """The keys with only those in a window of four places out of order."""
    start = seed % max(1, len(keys) - 3)
    return keys[:start] + shuffled(keys[start:start + 4], seed) + keys[start + 4:]


EMPTY = State([], [], [])
SINGLE = State.same([4])
PAIRS = [State(*map(list, lists)) for lists in product(permutations([6, 2]), repeat=3)]
TRIPLES = [State(*map(list, lists)) for lists in product(permutations([5, 1, 30]), repeat=3)]
FOURS = [state_of(4, seed) for seed in range(60)]
FIVES = [state_of(5, seed) for seed in range(40)]
TWELVES = [state_of(12, seed) for seed in range(4)]
STATES = [EMPTY, SINGLE] + PAIRS + TRIPLES + FOURS + FIVES + TWELVES
CIRCLE = State([1, 2, 3], [2, 3, 1], [3, 1, 2])


def read_before(state, x, y):
    """Whether at least two replicas have x before y."""
    return [x != y and stands_before(order, x, y) for order in state.lists()].count(True) >= 2


def read_pairs(state):
    """The tuples (x, y) with x read before y, ascending."""
    return [pair for pair in sorted(permutations(state.all_keys(), 2)) if read_before(state, *pair)]


def dissenters(state, x, y):
    """The replicas that say the opposite of the reading, for x and y in either order."""
    majority = read_before(state, x, y)
    return [replica for replica in range(3) if x != y and stands_before(state.lists()[replica], x, y) != majority]


def circles(state):
    """All triples (x, y, z) that are read in a circle, each three times."""
    pairs = set(read_pairs(state))
    return [
        (x, y, z) for x, y, z in permutations(state.all_keys(), 3)
        if (x, y) in pairs and (y, z) in pairs and (z, x) in pairs
    ]


def pinned_pairs(state):
    """The pairs (x, y) that lie in a circle, x read before y, ascending."""
    return sorted({(x, y) for x, y, _ in circles(state)})


def all_swaps(state):
    """The swaps that there are, ascending."""
    return [(replica, index) for replica in range(3) for index in range(len(state) - 1)]


def swapped(state, swap):
    """The state after the swap, silent or not."""
    replica, index = swap
    lists = state.lists()
    order = lists[replica]
    order[index], order[index + 1] = order[index + 1], order[index]
    return State(*lists)


def keeps_reading(state, swap):
    """Whether the reading stays the same: the test of a silent swap that looks at all pairs."""
    return read_pairs(swapped(state, swap)) == read_pairs(state)


def swaps_home(state):
    """The homeward swaps, ascending."""
    found = []
    for replica, index in all_swaps(state):
        order = state.list_of(replica)
        if read_before(state, order[index + 1], order[index]):
            found.append((replica, index))
    return found


def farness(state, replicas=(0, 1, 2)):
    """For each state that silent swaps of the replicas lead to (by its text): the fewest swaps."""
    found = {str(state): 0}
    border = [state]
    while border:
        beyond = []
        for here in border:
            for swap in all_swaps(here):
                there = swapped(here, swap)
                if swap[0] in replicas and str(there) not in found and keeps_reading(here, swap):
                    found[str(there)] = found[str(here)] + 1
                    beyond.append(there)
        border = beyond
    return found


def subsets_of_replicas():
    """All subsets of the replicas, as tuples."""
    return [some for many in range(4) for some in combinations((0, 1, 2), many)]


def missing_swaps_of(state):
    """Swaps that do not exist at the state."""
    size = len(state)
    wrong = [(replica, 0) for replica in WRONG_REPLICAS]
    for replica in range(3):
        wrong += [(replica, index) for index in (-10000, -size, -2, -1, size - 1, size, size + 1, 10000)]
    return [swap for swap in wrong if swap not in all_swaps(state)]


def spread(state, movers=(0, 1, 2)):
    """For each three lists, as tuples, to which silent swaps of the movers lead: the fewest swaps."""
    start = tuple(map(tuple, state.lists()))
    found = {start: 0}
    border = [start]
    while border:
        beyond = []
        for lists in border:
            for there in silent_steps(lists, movers):
                if there not in found:
                    found[there] = found[lists] + 1
                    beyond.append(there)
        border = beyond
    return found


def silent_steps(lists, movers=(0, 1, 2)):
    """The lists after each silent swap: at keys about which the two other replicas agree."""
    found = []
    for replica in set(movers):
        order = lists[replica]
        others = lists[:replica] + lists[replica + 1:]
        for index in range(len(order) - 1):
            x, y = order[index:index + 2]
            if stands_before(others[0], x, y) == stands_before(others[1], x, y):
                turned = order[:index] + (y, x) + order[index + 2:]
                found.append(lists[:replica] + (turned,) + lists[replica + 1:])
    return found


def members_of(state):
    """The lists of the states of the class, ascending."""
    return sorted([[list(order) for order in lists] for lists in spread(state)])


def walked(state, many, seed):
    """A state of the same class, after this many silent swaps that the seed alone decides."""
    chance = random.Random(seed)
    lists = tuple(map(tuple, state.lists()))
    for _ in range(many):
        lists = chance.choice(silent_steps(lists) or [lists])
    return State(*map(list, lists))
