"""The kinds of contents once more, by the document's words: all contents of some keys, their places and words."""

from collections import namedtuple
from itertools import combinations, permutations, product

from quorumdrift.cachesets import CacheSet
from quorumdrift.dependencysets import DependencySet
from quorumdrift.orderlists import OrderList
from quorumdrift.shardmaps import ShardMap
from quorumdrift.tierlists import TierList
from tests.helpers import stands_before


def pairs_of(keys):
    """The tuples (x, y) with x < y, ascending: the places of lists and of groups."""
    return list(combinations(sorted(keys), 2))


def partitions(keys):
    """All ways to put the keys in groups."""
    if not keys:
        return [[]]
    found = []
    for groups in partitions(keys[1:]):
        found.append([[keys[0]]] + groups)
        found += [groups[:at] + [[keys[0]] + groups[at]] + groups[at + 1:] for at in range(len(groups))]
    return found


def lists_of(keys):
    """All lists of the keys."""
    return [list(order) for order in permutations(keys)]


def words_of_list(order):
    """The places that a list has on: x stands before y."""
    return [(x, y) for x, y in pairs_of(order) if stands_before(order, x, y)]


def words_of_groups(groups):
    """The places that groups have on: both keys are in one group."""
    keys = [key for group in groups for key in group]
    return [(x, y) for x, y in pairs_of(keys) if any(x in group and y in group for group in groups)]


# Each kind with its class, with all forms that contents of some keys can have, and with the words of a form.
KINDS = [(OrderList, lists_of, words_of_list), (ShardMap, partitions, words_of_groups)]

# Tuples that are no places of the keys 1, 4, 6, 9.
NO_PLACES = [(4, 1), (1, 1), (9, 9), (1, 2), (0, 4), (9, 10), (-1, 1), (1,), (), (1, 4, 6), (1, 4, 4), (9, 6)]


def chosen(places, code):
    """The places whose bit is on in the code."""
    return [place for at, place in enumerate(places) if code >> at & 1]


def two_keys(keys):
    """The tuples (x, y) of two different keys, ascending: the places of demands and of ranks."""
    return list(permutations(sorted(keys), 2))


def single_keys(keys):
    """The tuples of one key, ascending: the places of caches."""
    return [(key,) for key in sorted(keys)]


def is_order(pairs):
    """Whether no key comes before itself by these pairs, and what follows from two of them is among them."""
    found = set(pairs)
    wanted = {(x, z) for x, y in found for u, z in found if y == u}
    return wanted <= found and not any(x == y for x, y in found)


def demands_of(keys):
    """All lists of pairs that demands on the keys can be, for few keys."""
    places = two_keys(keys)
    return [some for some in (chosen(places, code) for code in range(1 << len(places))) if is_order(some)]


def rankings(keys):
    """All ways to put the keys in ranks."""
    found = []
    for positions in product(range(len(keys)), repeat=len(keys)):
        if set(positions) == set(range(len(set(positions)))):
            ranks = [[] for _ in set(positions)]
            for key, position in zip(keys, positions):
                ranks[position].append(key)
            found.append(ranks)
    return found


def words_of_ranks(ranks):
    """The places that ranks have on: x stands in an earlier rank than y."""
    position = {key: place for place, rank in enumerate(ranks) for key in rank}
    return [(x, y) for x, y in two_keys(position) if position[x] < position[y]]


def holdings(keys, book):
    """All lists of keys that can be held together."""
    subsets = [list(some) for many in range(len(keys) + 1) for some in combinations(sorted(keys), many)]
    return [held for held in subsets if not any(set(triple) <= set(held) for triple in book)]


def first_book(keys):
    """A book of at most two tuples, not ascending."""
    keys = sorted(keys)
    return [tuple(keys[at:at + 3][::-1]) for at in range(2) if len(keys) >= at + 3]


def full_book(keys):
    """A book of all tuples of three keys."""
    return list(combinations(sorted(keys), 3))


# A kind: its class, how contents of some keys are made of a form, all forms that they can have, the words of a form,
# the places of the keys, and how many groups or ranks a form has.
Kind = namedtuple("Kind", "owner make forms words places parts")


def caches_with(book_of):
    """The kind of caches that have the book of this function."""
    return Kind(
        CacheSet, lambda keys, held: CacheSet(keys, held, book_of(keys)), lambda keys: holdings(keys, book_of(keys)),
        single_keys, single_keys, lambda held: 0,
    )


FIVE_KINDS = [
    Kind(OrderList, lambda keys, order: OrderList(order), lists_of, words_of_list, pairs_of, lambda order: 0),
    Kind(ShardMap, lambda keys, groups: ShardMap(groups), partitions, words_of_groups, pairs_of, len),
    Kind(DependencySet, DependencySet, demands_of, sorted, two_keys, lambda pairs: 0),
    caches_with(lambda keys: []), caches_with(first_book), caches_with(full_book),
    Kind(TierList, lambda keys, ranks: TierList(ranks), rankings, words_of_ranks, two_keys, len),
]


def contents_of(kind, keys):
    """All contents of the keys, each under its words."""
    return {tuple(kind.words(form)): kind.make(keys, form) for form in kind.forms(keys)}


def next_words(kind, keys):
    """For the words of each contents those that are one basic change away, ascending.

    Contents of lists, demands and caches are one basic change apart exactly if they differ at one place; groups and
    ranks, if one of them has all words of the other and one part more or less.
    """
    parts = {tuple(kind.words(form)): kind.parts(form) for form in kind.forms(keys)}
    found = {}
    for words, many in parts.items():
        found[words] = []
        for other, other_many in sorted(parts.items()):
            apart = set(words) ^ set(other)
            if kind.owner in (ShardMap, TierList):
                nested = set(words) < set(other) or set(other) < set(words)
                if nested and abs(many - other_many) == 1:
                    found[words].append(other)
            elif len(apart) == 1:
                found[words].append(other)
    return found


def conflicts_of(kind, keys, words):
    """The conflicts of a set of words, by the document's words for each kind, ascending."""
    found = []
    for x, y, z in permutations(sorted(keys), 3):
        if kind.owner is OrderList:
            read = [(u, v) in words if u < v else (v, u) not in words for u, v in ((x, y), (y, z), (z, x))]
            wrong, places = all(read), [tuple(sorted(pair)) for pair in ((x, y), (y, z), (z, x))]
        elif kind.owner is ShardMap:
            places = list(combinations(sorted((x, y, z)), 2))
            wrong = [place in words for place in places].count(True) == 2
        elif kind.owner is CacheSet:
            places = [(x,), (y,), (z,)]
            book = [set(triple) for triple in kind.make(keys, []).book()]
            wrong = {x, y, z} in book and all(place in words for place in places)
        else:
            places = [(x, y), (y, z), (x, z)]
            wrong = (x, y) in words and (y, z) in words and (x, z) not in words
            if kind.owner is TierList and (x, y) in words and (x, z) not in words and (z, y) not in words:
                found.append(tuple(sorted([(x, y), (x, z), (z, y)])))
        if wrong:
            found.append(tuple(sorted(places)))
    return sorted(set(found))
