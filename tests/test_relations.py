"""Point 7: relations."""

import unittest
from itertools import combinations, islice, permutations, product
from math import factorial

from quorumdrift.errors import InvalidList, OutOfRange, UnknownKey, UnlikeKeys
from quorumdrift.relations import Relation
from tests.helpers import DriftCase, shuffled, some_pairs, stands_before, within_steps


def implied_pairs(keys, pairs):
    """The implied pairs: joined again and again until nothing is new."""
    implied = set(pairs)
    while True:
        more = implied | {(x, z) for x, y in implied for w, z in implied if y == w}
        if more == implied:
            return sorted(implied)
        implied = more


def least_path(keys, pairs, x, y):
    """The path by the document's words: try all lists, the shorter ones first."""
    given = set(pairs)
    for inner in range(len(keys)):
        for middle in sorted(product(keys, repeat=inner)):
            path = [x, *middle, y]
            if all(step in given for step in zip(path, path[1:])):
                return path
    return None


def least_cycle(keys, pairs):
    """The cycle by the document's words: try all lists of distinct keys, the shorter ones first."""
    given = set(pairs)
    for size in range(1, len(keys) + 1):
        for loop in sorted(permutations(keys, size)):
            steps = zip(loop, loop[1:] + loop[:1])
            if loop[0] == min(loop) and all(step in given for step in steps):
                return list(loop)
    return None


def kept_orders(keys, pairs):
    """All lists of the keys that have every pair as demanded."""
    return [
        list(order) for order in sorted(permutations(keys))
        if all(stands_before(order, x, y) for x, y in pairs)
    ]


def samples():
    """Keys and pairs: all relations of three keys, and some of four and five."""
    keys = [9, 2, 5]
    places = list(product(keys, repeat=2))
    for many in range(len(places) + 1):
        for pairs in combinations(places, many):
            yield keys, list(pairs)
    for seed in range(120):
        keys = shuffled([1, 30, 4, 8, 0][: 4 + seed % 2], seed)
        yield keys, some_pairs(keys, seed % 8, seed)
    for seed in range(60):
        # Most random pairs are cyclic, so some go along a hidden list.
        keys = shuffled([1, 30, 4, 8, 0], seed)
        yield keys, [(x, y) for x, y in some_pairs(keys, seed % 9, seed) if stands_before(keys, x, y)]


SAMPLES = list(samples())


class AgainstSearchTest(DriftCase):
    def test_keys_and_implied_pairs(self):
        for keys, pairs in SAMPLES:
            relation = Relation(keys, pairs)
            implied = implied_pairs(keys, pairs)
            self.assertEqual(relation.all_keys(), sorted(keys))
            self.assertEqual(relation.closed(), implied)
            self.assertEqual(len(relation), len(implied))
            for x, y in product(keys, repeat=2):
                self.assertIs(relation.implies(x, y), (x, y) in implied)
                self.assertIs((x, y) in relation, (x, y) in implied)

    def test_paths(self):
        for keys, pairs in SAMPLES:
            relation = Relation(keys, pairs)
            for x, y in product(keys, repeat=2):
                self.assertEqual(relation.path(x, y), least_path(keys, pairs, x, y), (keys, pairs, x, y))

    def test_cycles(self):
        for keys, pairs in SAMPLES:
            self.assertEqual(Relation(keys, pairs).cycle(), least_cycle(keys, pairs), (keys, pairs))

    def test_orders_kept_and_their_number(self):
        for keys, pairs in SAMPLES:
            relation = Relation(keys, pairs)
            kept = kept_orders(keys, pairs)
            self.assertEqual(list(relation.each_order()), kept)
            self.assertEqual(relation.order_count(), len(kept))
            self.assertEqual(relation.least_order(), kept[0] if kept else None)
            for order in permutations(keys):
                self.assertIs(relation.keeps(list(order)), list(order) in kept)

    def test_ranks(self):
        for keys, pairs in SAMPLES:
            relation = Relation(keys, pairs)
            kept = kept_orders(keys, pairs)
            for order in permutations(keys):
                expected = kept.index(list(order)) if list(order) in kept else None
                self.assertEqual(relation.rank(list(order)), expected)
            for rank, order in enumerate(kept):
                self.assertEqual(relation.order_at(rank), order)
            for rank in (-1, -len(kept) - 1, len(kept), len(kept) + 7):
                self.assert_raises(OutOfRange, {"limit": len(kept)}, relation.order_at, rank)

    def test_spans(self):
        for keys, pairs in SAMPLES:
            relation = Relation(keys, pairs)
            kept = kept_orders(keys, pairs)
            for key in keys:
                positions = sorted({order.index(key) for order in kept})
                expected = (positions[0], positions[-1]) if positions else None
                self.assertEqual(relation.span(key), expected)


class EdgesTest(DriftCase):
    def test_no_keys(self):
        relation = Relation([], [])
        self.assertEqual(relation.all_keys(), [])
        self.assertEqual(relation.closed(), [])
        self.assertIsNone(relation.cycle())
        self.assertTrue(relation.keeps([]))
        self.assertEqual(relation.order_count(), 1)
        self.assertEqual(list(relation.each_order()), [[]])
        self.assertEqual(relation.least_order(), [])
        self.assertEqual(relation.rank([]), 0)
        self.assertEqual(relation.order_at(0), [])
        self.assert_raises(OutOfRange, {"limit": 1}, relation.order_at, 1)
        self.assert_raises(OutOfRange, {"limit": 1}, relation.order_at, -1)
        self.assert_raises(UnknownKey, {"key": 0}, relation.span, 0)
        self.assertEqual(len(relation), 0)
        self.assertEqual(relation, -relation)
        self.assertEqual(relation + relation, relation)

    def test_no_pairs(self):
        relation = Relation([3, 1, 2], [])
        self.assertEqual(relation.order_count(), 6)
        self.assertEqual(relation.least_order(), [1, 2, 3])
        self.assertEqual(relation.order_at(5), [3, 2, 1])
        self.assertEqual(relation.span(2), (0, 2))
        self.assertIsNone(relation.path(1, 1))

    def test_a_key_before_itself(self):
        relation = Relation([4, 6], [(6, 6)])
        self.assertEqual(relation.closed(), [(6, 6)])
        self.assertEqual(relation.cycle(), [6])
        self.assertEqual(relation.path(6, 6), [6, 6])
        self.assertIsNone(relation.path(4, 4))
        self.assertFalse(relation.keeps([4, 6]))
        self.assertIsNone(relation.rank([4, 6]))
        self.assertIsNone(relation.span(4))
        self.assertIsNone(relation.least_order())
        self.assertEqual(list(relation.each_order()), [])
        self.assertEqual(relation.order_count(), 0)
        self.assert_raises(OutOfRange, {"limit": 0}, relation.order_at, 0)

    def test_a_pair_given_twice(self):
        once = Relation([1, 2, 3], [(3, 1)])
        twice = Relation([1, 2, 3], [(3, 1), (3, 1)])
        self.assertEqual(once, twice)
        self.assertEqual(len(twice), 1)
        self.assertEqual(twice.order_count(), 3)

    def test_cycles_of_several_lengths(self):
        keys = list(range(12))
        for size in range(1, 13):
            ring = shuffled(keys, size)[:size]
            relation = Relation(keys, list(zip(ring, ring[1:] + ring[:1])))
            start = ring.index(min(ring))
            self.assertEqual(relation.cycle(), ring[start:] + ring[:start])
            self.assertEqual(relation.path(ring[0], ring[0]), ring + ring[:1])
            self.assertEqual(len(relation), size * size)
            self.assertEqual(relation.order_count(), 0)

    def test_the_shortest_cycle_wins_over_one_with_a_lesser_key(self):
        pairs = [(1, 2), (2, 3), (3, 1), (8, 9), (9, 8), (6, 7), (7, 6)]
        self.assertEqual(Relation([1, 2, 3, 6, 7, 8, 9], pairs).cycle(), [6, 7])

    def test_the_least_of_the_shortest_paths(self):
        pairs = [(1, 9), (9, 2), (2, 5), (1, 8), (8, 3), (3, 5), (1, 7), (7, 6), (6, 4), (4, 5)]
        self.assertEqual(Relation([1, 2, 3, 4, 5, 6, 7, 8, 9], pairs).path(1, 5), [1, 8, 3, 5])

    def test_twelve_keys_without_pairs(self):
        keys = list(range(12))
        relation = Relation(keys, [])
        many = factorial(12)
        self.assertEqual(relation.order_count(), many)
        self.assertEqual(relation.order_at(many - 1), keys[::-1])
        self.assertEqual(relation.rank(keys[::-1]), many - 1)
        self.assertEqual(relation.order_at(0), keys)
        for rank in (1, 12345678, 400000000):
            self.assertEqual(relation.rank(relation.order_at(rank)), rank)
        self.assert_raises(OutOfRange, {"limit": many}, relation.order_at, many)

    def test_twelve_keys_in_two_chains(self):
        keys = list(range(12))
        chains = [(key, key + 1) for key in range(11) if key != 5]
        relation = Relation(keys, chains)
        self.assertEqual(relation.order_count(), 924)
        found = list(relation.each_order())
        self.assertEqual(len(found), 924)
        self.assertEqual(found, sorted(found))
        for rank, order in enumerate(found):
            self.assertEqual(relation.rank(order), rank)
            self.assertEqual(relation.order_at(rank), order)
        self.assertEqual(relation.span(7), (1, 7))


class GeneratorTest(DriftCase):
    def test_the_first_orders_of_twelve_keys_come_at_once(self):
        keys = list(range(12))
        relation = Relation(keys, [(0, 1)])
        found = within_steps(20000, lambda: list(islice(relation.each_order(), 3)))
        self.assertEqual(found, [keys, keys[:10] + [11, 10], keys[:9] + [10, 9, 11]])
        self.assertEqual(within_steps(20000, relation.least_order), keys)

    def test_a_cycle_among_many_free_keys_ends_the_search_at_once(self):
        relation = Relation(list(range(12)), [(10, 11), (11, 10)])
        self.assertEqual(within_steps(20000, lambda: list(relation.each_order())), [])
        self.assertIsNone(within_steps(20000, relation.least_order))

    def test_a_late_key_that_must_come_first_is_found_at_once(self):
        relation = Relation(list(range(12)), [(11, key) for key in range(11)])
        self.assertEqual(within_steps(20000, relation.least_order), [11] + list(range(11)))

    def test_each_order_is_an_iterator(self):
        orders = Relation([1, 2], []).each_order()
        self.assertIs(iter(orders), orders)
        self.assertEqual(next(orders), [1, 2])
        self.assertEqual(next(orders), [2, 1])
        self.assertIsNone(next(orders, None))

    def test_yielded_lists_can_be_changed(self):
        relation = Relation([1, 2, 3, 4], [(3, 1)])
        expected = list(relation.each_order())
        found = []
        for order in relation.each_order():
            found.append(list(order))
            order.clear()
        self.assertEqual(found, expected)

    def test_two_iterations_do_not_disturb_each_other(self):
        relation = Relation([1, 2, 3], [])
        self.assertEqual([a == b for a, b in zip(relation.each_order(), relation.each_order())], [True] * 6)


class ErrorOrderTest(DriftCase):
    def test_wrong_keys_of_a_new_relation(self):
        self.assert_raises(InvalidList, {"place": 1}, Relation, [1, 1], [(7, 8)])
        self.assert_raises(InvalidList, {"place": 0}, Relation, [10000], [])
        self.assert_raises(InvalidList, {"place": 12}, Relation, list(range(13)), [])

    def test_the_first_unknown_key_of_the_pairs(self):
        self.assert_raises(UnknownKey, {"key": 9}, Relation, [1, 2], [(1, 2), (9, 8), (3, 4)])
        self.assert_raises(UnknownKey, {"key": 8}, Relation, [1, 2], [(1, 2), (2, 8), (3, 4)])
        self.assert_raises(UnknownKey, {"key": -1}, Relation, [], [(-1, -1)])

    def test_unknown_keys_of_implies_and_path(self):
        relation = Relation([1, 2], [(1, 2)])
        for action in (relation.implies, relation.path):
            self.assert_raises(UnknownKey, {"key": 8}, action, 8, 7)
            self.assert_raises(UnknownKey, {"key": 7}, action, 1, 7)
            self.assert_raises(UnknownKey, {"key": 8}, action, 8, 1)
            self.assert_raises(UnknownKey, {"key": 8}, action, 8, 8)

    def test_unknown_key_of_span_comes_before_the_cycle(self):
        self.assert_raises(UnknownKey, {"key": 3}, Relation([1], []).span, 3)
        self.assert_raises(UnknownKey, {"key": 3}, Relation([1], [(1, 1)]).span, 3)

    def test_lists_of_keeps_and_rank(self):
        for pairs in ([], [(4, 5)], [(5, 5)]):
            relation = Relation([4, 5], pairs)
            for action in (relation.keeps, relation.rank):
                self.assert_raises(InvalidList, {"place": 2}, action, [4, 3, 3])
                self.assert_raises(InvalidList, {"place": 1}, action, [4, -1])
                self.assert_raises(UnlikeKeys, {"key": 5}, action, [4])
                self.assert_raises(UnlikeKeys, {"key": 3}, action, [4, 5, 3])
                self.assert_raises(UnlikeKeys, {"key": 5}, action, [4, 6])
                self.assert_raises(UnlikeKeys, {"key": 4}, action, [])

    def test_unlike_keys_of_a_sum(self):
        first = Relation([1, 2, 6], [])
        self.assert_raises(UnlikeKeys, {"key": 2}, first.__add__, Relation([1, 3, 6], []))
        self.assert_raises(UnlikeKeys, {"key": 2}, Relation([1, 3, 6], []).__add__, first)
        self.assert_raises(UnlikeKeys, {"key": 1}, first.__add__, Relation([], []))


class OperatorTest(DriftCase):
    def test_sum_demands_the_pairs_of_both(self):
        first = Relation([1, 2, 3], [(1, 2)])
        second = Relation([3, 2, 1], [(2, 3)])
        self.assertEqual((first + second).closed(), [(1, 2), (1, 3), (2, 3)])
        self.assertEqual((first + second).path(1, 3), [1, 2, 3])
        self.assertEqual((first + -first).cycle(), [1, 2])
        self.assertEqual((first.closed(), second.closed()), ([(1, 2)], [(2, 3)]))

    def test_sum_and_opposite_of_all_samples(self):
        for (keys, pairs), (others, more) in zip(SAMPLES, SAMPLES[1:]):
            opposite = -Relation(keys, pairs)
            turned = [(y, x) for x, y in pairs]
            self.assertEqual(opposite.closed(), implied_pairs(keys, turned))
            self.assertEqual([opposite.path(x, y) for x in keys for y in keys],
                             [least_path(keys, turned, x, y) for x in keys for y in keys])
            self.assertEqual(-opposite, Relation(keys, pairs))
            if sorted(keys) == sorted(others):
                both = Relation(keys, pairs) + Relation(others, more)
                self.assertEqual(both.closed(), implied_pairs(keys, pairs + more))
                self.assertEqual(both.cycle(), least_cycle(keys, pairs + more))

    def test_in_is_false_for_unknown_keys(self):
        relation = Relation([1, 2], [(1, 2)])
        for pair in ((1, 3), (3, 1), (3, 4), (-1, -1)):
            self.assertIs(pair in relation, False)
        self.assertIs((1, 2) in relation, True)
        self.assertIs((2, 1) in relation, False)
        self.assertIs((1, 1) in relation, False)

    def test_equal_by_keys_and_implied_pairs(self):
        chain = Relation([1, 2, 3], [(1, 2), (2, 3)])
        self.assertTrue(chain == Relation([3, 1, 2], [(2, 3), (1, 3), (1, 2)]))
        self.assertFalse(chain != Relation([3, 1, 2], [(2, 3), (1, 3), (1, 2)]))
        self.assertFalse(chain == Relation([1, 2, 3], [(1, 2), (1, 3)]))
        self.assertFalse(chain == Relation([1, 2, 3, 4], [(1, 2), (2, 3)]))
        self.assertFalse(Relation([1], []) == Relation([2], []))
        self.assertFalse(Relation([], []) == Relation([2], []))
        self.assertTrue(Relation([1], []) != Relation([2], []))


if __name__ == "__main__":
    unittest.main()
