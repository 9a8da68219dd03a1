"""Point 32: demands on keys as contents."""

import unittest
from itertools import combinations, permutations

from quorumdrift.dependencysets import DependencySet
from quorumdrift.errors import InvalidContents
from tests.helpers import DriftCase, shuffled
from tests.kinds import chosen, demands_of, is_order, two_keys
from tests.test_contents import NO_LISTS, WRONG_KEYS

# 1 before 2 before 3, with the pair that follows.
CHAIN = ((1, 2), (1, 3), (2, 3))


class DependencySetTest(DriftCase):
    def test_every_set_of_pairs_of_few_keys(self):
        allowed = 0
        for keys in ([], [5], [5, 2], [5, 2, 9]):
            places = two_keys(keys)
            for code in range(1 << len(places)):
                pairs = shuffled(chosen(places, code), code)
                if is_order(pairs):
                    contents = DependencySet(keys, pairs)
                    self.assertEqual(contents.pairs(), sorted(pairs))
                    self.assertEqual(contents.words(), sorted(pairs))
                    self.assertEqual(contents.all_keys(), sorted(keys))
                    allowed += 1
                else:
                    self.assert_raises(InvalidContents, {}, DependencySet, keys, pairs)
        self.assertEqual(allowed, 1 + 1 + 3 + 19)

    def test_sets_of_four_keys(self):
        keys = [9, 2, 5, 7]
        self.assertEqual(len(demands_of(keys)), 219)
        for pairs in demands_of(keys):
            self.assertEqual(DependencySet(keys, pairs).pairs(), pairs)
        for code in range(0, 4096, 5):
            pairs = chosen(two_keys(keys), code)
            if not is_order(pairs):
                self.assert_raises(InvalidContents, {}, DependencySet, keys, pairs)

    def test_pairs_in_any_order_and_given_twice(self):
        wanted = DependencySet([1, 2, 3], list(CHAIN))
        for pairs in permutations(CHAIN):
            given = list(pairs) + list(pairs[:2])
            before = list(given)
            self.assertEqual(DependencySet([3, 1, 2], given).pairs(), list(CHAIN))
            self.assertEqual(DependencySet([3, 1, 2], given), wanted)
            self.assertEqual(given, before)

    def test_kind(self):
        self.assertEqual((DependencySet.KIND, DependencySet([1], []).KIND), ("dependencies", "dependencies"))
        self.assertEqual(DependencySet([], []).label(), "dependencies: 0 keys")
        self.assertEqual(DependencySet([4, 2], [(4, 2)]).label(), "dependencies: 2 keys")

    def test_wrong_keys(self):
        for keys in WRONG_KEYS:
            self.assert_raises(InvalidContents, {}, DependencySet, keys, [])

    def test_keys_in_another_value_than_a_list(self):
        for keys in NO_LISTS:
            self.assert_raises(InvalidContents, {}, DependencySet, keys, [])

    def test_wrong_pairs(self):
        keys = [1, 2, 3, 4]
        wrong = [
            [(1, 5)], [(5, 1)], [(5, 6)], [(1, 2), (0, 1)], [(1, -1)], [(1, 10000)],
            [(1, 1)], [(1, 2), (3, 3)], [(5, 5)],
            [(1, 2), (2, 1)], [(3, 4), (1, 2), (4, 3)],
            [(1, 2), (2, 3)], [(2, 3), (1, 2)], [(1, 2), (2, 3), (3, 1)], [(1, 2), (2, 3), (1, 3), (3, 4)],
            [(1, 2), (2, 3), (1, 3), (3, 4), (2, 4)], [(1, 2), (2, 3), (3, 4), (1, 3), (1, 4)],
        ]
        for pairs in wrong:
            for given in (pairs, pairs[::-1], pairs + pairs):
                self.assert_raises(InvalidContents, {}, DependencySet, keys, given)
        for keys in ([], [1]):
            self.assert_raises(InvalidContents, {}, DependencySet, keys, [(1, 2)])
            self.assert_raises(InvalidContents, {}, DependencySet, keys, [(1, 1)])

    def test_lists_are_copied(self):
        keys, pairs = [3, 1, 2], [(3, 1)]
        contents = DependencySet(keys, pairs)
        keys.append(7)
        pairs.append((1, 2))
        for result in (contents.pairs(), contents.words(), contents.places(), contents.all_keys(), contents.changes()):
            result.clear()
        contents.changes()[0].pairs().clear()
        self.assertEqual((contents.all_keys(), contents.pairs()), ([1, 2, 3], [(3, 1)]))
        self.assertEqual(contents.changes(), DependencySet([1, 2, 3], [(3, 1)]).changes())

    def test_changes_that_put_in_and_that_strike_out(self):
        found = [other.pairs() for other in DependencySet([1, 2, 3], [(1, 2)]).changes()]
        # (2, 3) and (3, 1) cannot be put in, as (1, 3) and (3, 2) would have to come with them.
        self.assertEqual(found, [[], [(1, 2), (1, 3)], [(1, 2), (3, 2)]])
        # A pair that follows from two others cannot be struck out.
        found = [other.pairs() for other in DependencySet([1, 2, 3], list(CHAIN)).changes()]
        self.assertEqual(found, [[(1, 2), (1, 3)], [(1, 3), (2, 3)]])
        found = [other.pairs() for other in DependencySet([1, 2], []).changes()]
        self.assertEqual(found, [[(1, 2)], [(2, 1)]])
        self.assertEqual(DependencySet([], []).changes() + DependencySet([8], []).changes(), [])

    def test_the_conflicts_of_every_set_of_places_of_three_keys(self):
        contents = DependencySet([1, 2, 3], [])
        for code in range(64):
            words = chosen(two_keys([1, 2, 3]), code)
            wanted = []
            for x, y, z in permutations([1, 2, 3]):
                if {(x, y), (y, z)} <= set(words) and (x, z) not in words:
                    wanted.append(tuple(sorted([(x, y), (y, z), (x, z)])))
            self.assertEqual(contents.conflicts(words), sorted(wanted))
            self.assertEqual(contents.conflicts(words[::-1]), sorted(wanted))

    def test_some_conflicts(self):
        contents = DependencySet([1, 2, 3], [])
        self.assertEqual(contents.conflicts([(1, 2), (2, 3)]), [CHAIN])
        self.assertEqual(contents.conflicts([(3, 2), (2, 1)]), [((2, 1), (3, 1), (3, 2))])
        around = [((1, 2), (1, 3), (2, 3)), ((1, 2), (3, 1), (3, 2)), ((2, 1), (2, 3), (3, 1))]
        self.assertEqual(contents.conflicts([(1, 2), (2, 3), (3, 1)]), around)
        # Two keys that are both read before the other: no conflict of two keys.
        self.assertEqual(contents.conflicts([(1, 2), (2, 1)]), [])
        both = contents.conflicts([(1, 2), (2, 1), (1, 3)])
        self.assertEqual(both, [((1, 3), (2, 1), (2, 3))])

    def test_forced(self):
        contents = DependencySet([1, 2, 3, 4], [(1, 2), (1, 3), (1, 4), (2, 4), (3, 4)])
        self.assertIs(contents.forced((1, 4), [(1, 2), (2, 4)]), True)
        self.assertIs(contents.forced((4, 1), [(1, 2), (2, 4)]), False)
        self.assertIsNone(contents.forced((1, 4), [(1, 2), (3, 4)]))
        # A pinned place that is off binds as well: (1, 2) and (2, 3) would bring (1, 3).
        contents = DependencySet([1, 2, 3], [(1, 2)])
        self.assertIs(contents.forced((2, 3), [(1, 2), (1, 3)]), False)
        self.assertIsNone(contents.forced((2, 3), [(1, 2)]))
        self.assertIsNone(contents.forced((2, 3), [(1, 3)]))
        self.assertIs(contents.forced((1, 3), [(1, 3)]), False)
        self.assertIs(contents.forced((3, 1), [(1, 2), (3, 2)]), False)

    def test_eight_keys(self):
        order = [6, 1, 7, 0, 3, 5, 2, 4]
        contents = DependencySet(range_of(8), list(combinations(order, 2)))
        self.assertEqual((len(contents.places()), len(contents)), (56, 28))
        found = [set(contents.words()) - set(other.words()) for other in contents.changes()]
        self.assertEqual(sorted(found, key=sorted), sorted([{pair} for pair in zip(order, order[1:])], key=sorted))
        self.assertIs(contents.forced((6, 4), list(zip(order, order[1:]))), True)
        self.assertIsNone(contents.forced((6, 4), list(zip(order, order[2:]))))
        self.assertEqual(len(DependencySet(range_of(8), []).changes()), 56)
        self.assertEqual(contents.like([]), DependencySet(range_of(8), []))


def range_of(size):
    """The keys from 0 on, in an order that is not ascending."""
    return shuffled(range(size), 3)


if __name__ == "__main__":
    unittest.main()
