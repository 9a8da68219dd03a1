"""The kinds of contents once more, by the document's words: all contents of some keys, their places and words."""

from itertools import combinations, permutations

from quorumdrift.orderlists import OrderList
from quorumdrift.shardmaps import ShardMap
from tests.helpers import stands_before


def pairs_of(keys):
    """The tuples (x, y) with x < y, ascending: the places of lists and of groups."""
    return list(combinations(sorted(keys), 2))


def partitions(keys):
    """All ways to put the keys in groups."""
    if not keys:
        return [[]]
    found = []
    for groups in partitions(keys[1:]):
        found.append([[keys[0]]] + groups)
        found += [groups[:at] + [[keys[0]] + groups[at]] + groups[at + 1:] for at in range(len(groups))]
    return found


def lists_of(keys):
    """All lists of the keys."""
    return [list(order) for order in permutations(keys)]


def words_of_list(order):
    """The places that a list has on: x stands before y."""
    return [(x, y) for x, y in pairs_of(order) if stands_before(order, x, y)]


def words_of_groups(groups):
    """The places that groups have on: both keys are in one group."""
    keys = [key for group in groups for key in group]
    return [(x, y) for x, y in pairs_of(keys) if any(x in group and y in group for group in groups)]


# Each kind with its class, with all forms that contents of some keys can have, and with the words of a form.
KINDS = [(OrderList, lists_of, words_of_list), (ShardMap, partitions, words_of_groups)]

# Tuples that are no places of the keys 1, 4, 6, 9.
NO_PLACES = [(4, 1), (1, 1), (9, 9), (1, 2), (0, 4), (9, 10), (-1, 1), (1,), (), (1, 4, 6), (1, 4, 4), (9, 6)]


def chosen(places, code):
    """The places whose bit is on in the code."""
    return [place for at, place in enumerate(places) if code >> at & 1]
