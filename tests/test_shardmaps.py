"""Point 31: groups of keys as contents."""

import unittest
from itertools import combinations

from quorumdrift.errors import InvalidContents
from quorumdrift.shardmaps import ShardMap
from tests.helpers import DriftCase, shuffled
from tests.kinds import chosen, partitions, words_of_groups
from tests.test_contents import WRONG_KEYS


def tidy(groups):
    """The groups, each ascending, by their least keys."""
    return sorted([sorted(group) for group in groups], key=min)


def joined_or_parted(groups):
    """The groups with two of them joined, and with one of them parted in two, ascending by their words."""
    found = []
    for first, second in combinations(groups, 2):
        found.append([group for group in groups if group not in (first, second)] + [first + second])
    for group in groups:
        others = [other for other in groups if other != group]
        for size in range(1, len(group)):
            for part in combinations(group, size):
                parted = others + [list(part), [key for key in group if key not in part]]
                if tidy(parted) not in [tidy(one) for one in found]:
                    found.append(parted)
    return sorted([tidy(one) for one in found], key=words_of_groups)


class ShardMapTest(DriftCase):
    def test_every_map_of_few_keys(self):
        for size in range(6):
            for groups in partitions(shuffled(range(0, 5 * size, 5), 2)):
                contents = ShardMap(groups)
                self.assertEqual(contents.groups(), tidy(groups))
                self.assertEqual(contents.all_keys(), list(range(0, 5 * size, 5)))
                self.assertEqual(contents.places(), list(combinations(range(0, 5 * size, 5), 2)))
                self.assertEqual(contents.words(), words_of_groups(groups))
                self.assertEqual(contents.label(), f"shards: {size} keys")

    def test_kind(self):
        self.assertEqual((ShardMap.KIND, ShardMap([[1]]).KIND), ("shards", "shards"))
        self.assertEqual(ShardMap([]).label(), "shards: 0 keys")

    def test_groups_in_any_order(self):
        wanted = ShardMap([[1, 5], [2], [3, 9, 4]])
        for groups in ([[9, 3, 4], [2], [5, 1]], [[2], [4, 9, 3], [1, 5]], [[5, 1], [9, 4, 3], [2]]):
            before = [list(group) for group in groups]
            self.assertEqual(ShardMap(groups).groups(), [[1, 5], [2], [3, 4, 9]])
            self.assertEqual(ShardMap(groups), wanted)
            self.assertEqual(groups, before)
        self.assertEqual(ShardMap([[10], [9, 2]]).groups(), [[2, 9], [10]])

    def test_no_groups(self):
        contents = ShardMap([])
        found = [contents.groups(), contents.words(), contents.changes(), contents.conflicts([]), len(contents)]
        self.assertEqual(found, [[], [], [], [], 0])

    def test_wrong_groups(self):
        for groups in ([[]], [[], []], [[1], []], [[], [1, 2]], [[1], [], [2]]):
            self.assert_raises(InvalidContents, {}, ShardMap, groups)
        # A key in two groups, or twice in one.
        for groups in ([[1], [1]], [[1, 2], [3, 2]], [[4, 4]], [[1], [2, 3, 2]]):
            self.assert_raises(InvalidContents, {}, ShardMap, groups)
        for keys in WRONG_KEYS:
            self.assert_raises(InvalidContents, {}, ShardMap, [keys])
            self.assert_raises(InvalidContents, {}, ShardMap, [[key] for key in keys])
            self.assert_raises(InvalidContents, {}, ShardMap, [keys[:1]] + [[key] for key in keys[1:]] + [[]])

    def test_words(self):
        self.assertEqual(ShardMap([[9, 2], [4], [7, 5]]).words(), [(2, 9), (5, 7)])
        self.assertEqual(ShardMap([[9, 2, 4]]).words(), [(2, 4), (2, 9), (4, 9)])
        self.assertIs((2, 9) in ShardMap([[9, 2], [4]]), True)
        self.assertIs((9, 2) in ShardMap([[9, 2], [4]]), False)
        self.assertIs((2, 4) in ShardMap([[9, 2], [4]]), False)

    def test_groups_are_copied(self):
        groups = [[3, 1], [2]]
        contents = ShardMap(groups)
        groups[0].append(7)
        groups.append([8])
        contents.groups()[0].clear()
        contents.groups().clear()
        contents.all_keys().clear()
        contents.places().clear()
        contents.words().clear()
        contents.changes()[0].groups()[0].clear()
        contents.changes().clear()
        self.assertEqual((contents.groups(), contents.words()), ([[1, 3], [2]], [(1, 3)]))
        self.assertEqual([other.groups() for other in contents.changes()], [[[1], [2], [3]], [[1, 2, 3]]])

    def test_each_joining_and_each_parting(self):
        for size in range(6):
            for groups in partitions(shuffled(range(0, 5 * size, 5), 2)):
                found = [other.groups() for other in ShardMap(groups).changes()]
                self.assertEqual(found, joined_or_parted(tidy(groups)))

    def test_some_changes(self):
        found = [other.groups() for other in ShardMap([[1, 2, 3]]).changes()]
        self.assertEqual(found, [[[1, 2], [3]], [[1, 3], [2]], [[1], [2, 3]]])
        found = [other.groups() for other in ShardMap([[1], [2], [3]]).changes()]
        self.assertEqual(found, [[[1, 2], [3]], [[1, 3], [2]], [[1], [2, 3]]])
        self.assertEqual(ShardMap([[7]]).changes(), [])

    def test_the_conflicts_of_three_keys(self):
        for contents in (ShardMap([[1, 2, 3]]), ShardMap([[1], [2], [3]])):
            for code in range(8):
                words = chosen([(1, 2), (1, 3), (2, 3)], code)
                wanted = [((1, 2), (1, 3), (2, 3))] if len(words) == 2 else []
                self.assertEqual(contents.conflicts(words), wanted)
                self.assertEqual(contents.conflicts(words[::-1]), wanted)

    def test_the_conflicts_of_more_keys(self):
        keys = [1, 4, 6, 9, 20]
        contents = ShardMap([keys])
        for code in range(0, 1024, 3):
            words = chosen(contents.places(), code)
            wanted = [
                places for places in (tuple(combinations(triple, 2)) for triple in combinations(keys, 3))
                if len([place for place in places if place in words]) == 2
            ]
            self.assertEqual(contents.conflicts(words), wanted)

    def test_few_keys_have_no_conflicts(self):
        self.assertEqual(ShardMap([[1, 2]]).conflicts([(1, 2), (2, 3)]), [])

    def test_eight_keys(self):
        contents = ShardMap([list(range(8))])
        self.assertEqual((len(contents), len(contents.places()), len(contents.changes())), (28, 28, 127))
        self.assertEqual(len(ShardMap([[key] for key in range(8)]).changes()), 28)
        chain = [(key, key + 1) for key in range(7)]
        self.assertIs(contents.forced((0, 7), chain), True)
        self.assertIsNone(contents.forced((0, 7), chain[1:]))
        contents = ShardMap([[0, 1, 2, 3], [4, 5, 6, 7]])
        self.assertIs(contents.forced((0, 7), chain), False)
        self.assertIsNone(contents.forced((0, 7), chain[:3] + chain[4:]))


if __name__ == "__main__":
    unittest.main()
