"""Point 34: ranks of keys as contents."""

import unittest
from itertools import permutations

from quorumdrift.errors import InvalidContents
from quorumdrift.tierlists import TierList
from tests.helpers import DriftCase, shuffled
from tests.kinds import chosen, rankings, two_keys, words_of_ranks
from tests.test_contents import WRONG_KEYS


def joined_or_parted(ranks):
    """The ranks with two neighbours joined, and with one of them parted in two, ascending by their words."""
    found = []
    for at in range(len(ranks) - 1):
        found.append(ranks[:at] + [ranks[at] + ranks[at + 1]] + ranks[at + 2:])
    for at, rank in enumerate(ranks):
        for code in range(1, (1 << len(rank)) - 1):
            first = chosen(rank, code)
            second = [key for key in rank if key not in first]
            found.append(ranks[:at] + [first, second] + ranks[at + 1:])
    return sorted([[sorted(rank) for rank in one] for one in found], key=words_of_ranks)


class TierListTest(DriftCase):
    def test_every_list_of_few_keys(self):
        counts = []
        for size in range(6):
            keys = shuffled(range(0, 5 * size, 5), 2)
            counts.append(len(rankings(keys)))
            for ranks in rankings(keys):
                contents = TierList(ranks)
                self.assertEqual(contents.ranks(), [sorted(rank) for rank in ranks])
                self.assertEqual(contents.all_keys(), sorted(keys))
                self.assertEqual(contents.places(), two_keys(keys))
                self.assertEqual(contents.words(), words_of_ranks(ranks))
                self.assertEqual(contents.label(), f"tiers: {size} keys")
        self.assertEqual(counts, [1, 1, 3, 13, 75, 541])

    def test_kind(self):
        self.assertEqual((TierList.KIND, TierList([[1]]).KIND), ("tiers", "tiers"))
        self.assertEqual(TierList([]).label(), "tiers: 0 keys")

    def test_the_order_of_the_ranks_counts_and_that_in_a_rank_does_not(self):
        ranks = [[9, 3, 4], [2], [5, 1]]
        self.assertEqual(TierList(ranks).ranks(), [[3, 4, 9], [2], [1, 5]])
        self.assertEqual(ranks, [[9, 3, 4], [2], [5, 1]])
        self.assertEqual(TierList(ranks), TierList([[4, 9, 3], [2], [1, 5]]))
        self.assertNotEqual(TierList(ranks), TierList(ranks[::-1]))
        self.assertNotEqual(TierList([[1, 2]]), TierList([[1], [2]]))

    def test_no_ranks(self):
        contents = TierList([])
        found = [contents.ranks(), contents.words(), contents.changes(), contents.conflicts([]), len(contents)]
        self.assertEqual(found, [[], [], [], [], 0])

    def test_wrong_ranks(self):
        for ranks in ([[]], [[], []], [[1], []], [[], [1, 2]], [[1], [], [2]]):
            self.assert_raises(InvalidContents, {}, TierList, ranks)
        # A key in two ranks, or twice in one.
        for ranks in ([[1], [1]], [[1, 2], [3, 2]], [[4, 4]], [[1], [2, 3, 2]], [[1], [2], [1]]):
            self.assert_raises(InvalidContents, {}, TierList, ranks)
        for keys in WRONG_KEYS:
            self.assert_raises(InvalidContents, {}, TierList, [keys])
            self.assert_raises(InvalidContents, {}, TierList, [[key] for key in keys])
            self.assert_raises(InvalidContents, {}, TierList, [keys[:1]] + [[key] for key in keys[1:]] + [[]])

    def test_words(self):
        contents = TierList([[9, 2], [4], [7]])
        self.assertEqual(contents.words(), [(2, 4), (2, 7), (4, 7), (9, 4), (9, 7)])
        self.assertIs((9, 4) in contents, True)
        self.assertIs((4, 9) in contents, False)
        self.assertIs((2, 9) in contents, False)
        self.assertIs((9, 2) in contents, False)

    def test_lists_are_copied(self):
        ranks = [[3, 1], [2]]
        contents = TierList(ranks)
        ranks[0].append(7)
        ranks.append([8])
        contents.ranks()[0].clear()
        for result in (contents.ranks(), contents.words(), contents.places(), contents.all_keys(), contents.changes()):
            result.clear()
        contents.changes()[0].ranks()[0].clear()
        self.assertEqual((contents.ranks(), contents.words()), ([[1, 3], [2]], [(1, 2), (3, 2)]))
        self.assertEqual(contents.changes(), TierList([[1, 3], [2]]).changes())

    def test_each_joining_and_each_parting(self):
        for size in range(6):
            for ranks in rankings(shuffled(range(0, 5 * size, 5), 2)):
                found = [other.ranks() for other in TierList(ranks).changes()]
                self.assertEqual(found, joined_or_parted(ranks))

    def test_some_changes(self):
        found = [other.ranks() for other in TierList([[1, 2], [3]]).changes()]
        self.assertEqual(found, [[[1, 2, 3]], [[1], [2], [3]], [[2], [1], [3]]])
        found = [other.ranks() for other in TierList([[3], [1], [2]]).changes()]
        self.assertEqual(found, [[[1, 3], [2]], [[3], [1, 2]]])
        self.assertEqual(TierList([[7]]).changes(), [])

    def test_both_kinds_of_conflicts_of_every_set_of_places_of_three_keys(self):
        for contents in (TierList([[1, 2, 3]]), TierList([[2], [1], [3]])):
            for code in range(64):
                words = chosen(two_keys([1, 2, 3]), code)
                wanted = []
                for x, y, z in permutations([1, 2, 3]):
                    if (x, y) in words and (y, z) in words and (x, z) not in words:
                        wanted.append(tuple(sorted([(x, y), (y, z), (x, z)])))
                    if (x, y) in words and (x, z) not in words and (z, y) not in words:
                        wanted.append(tuple(sorted([(x, y), (x, z), (z, y)])))
                self.assertEqual(contents.conflicts(words), sorted(wanted))
                self.assertEqual(contents.conflicts(words[::-1]), sorted(wanted))

    def test_some_conflicts(self):
        contents = TierList([[1, 2, 3]])
        self.assertEqual(contents.conflicts([(1, 3)]), [((1, 2), (1, 3), (2, 3))])
        self.assertEqual(contents.conflicts([(3, 1)]), [((2, 1), (3, 1), (3, 2))])
        # 3 is not behind 1, so it is not behind 2 either if 2 is behind 1; and likewise for 1, 2 and 3.
        wanted = [((1, 2), (1, 3), (2, 3)), ((1, 2), (1, 3), (3, 2)), ((1, 3), (2, 1), (2, 3))]
        self.assertEqual(contents.conflicts([(1, 2), (2, 3)]), wanted)
        self.assertEqual(contents.conflicts([(1, 2), (1, 3)]), [])
        self.assertEqual(contents.conflicts([(1, 2), (3, 2)]), [])

    def test_like(self):
        contents = TierList([[1, 2, 3, 4]])
        self.assertEqual(contents.like([(4, 1), (4, 2), (4, 3)]).ranks(), [[4], [1, 2, 3]])
        self.assertEqual(contents.like([(4, 1), (2, 1), (3, 1)]).ranks(), [[2, 3, 4], [1]])
        for words in ([(4, 1)], [(1, 2), (2, 3), (1, 3)], [(1, 2), (2, 1)], [(1, 2), (3, 4)], [(1, 3), (2, 4)]):
            self.assert_raises(InvalidContents, {}, contents.like, words)

    def test_forced(self):
        contents = TierList([[1], [2, 3], [4]])
        self.assertIs(contents.forced((1, 4), [(1, 2), (2, 4)]), True)
        self.assertIs(contents.forced((4, 1), [(1, 2), (2, 4)]), False)
        # Pinned places that are off bind as well: 3 in no earlier rank than 2, 1 before 2.
        self.assertIs(contents.forced((1, 3), [(1, 2), (3, 2)]), True)
        self.assertIs(contents.forced((1, 3), [(3, 2), (1, 2), (3, 2)]), True)
        self.assertIsNone(contents.forced((1, 3), [(1, 2), (2, 3)]))
        self.assertIs(contents.forced((3, 2), [(3, 2)]), False)
        self.assertIs(contents.forced((3, 1), [(1, 2), (3, 2)]), False)
        self.assertIsNone(contents.forced((2, 3), [(3, 2)]))
        flat = TierList([[1, 2, 3]])
        # Both ways off: 1, 2 and 3 in one rank.
        self.assertIs(flat.forced((1, 3), [(1, 2), (2, 1), (2, 3), (3, 2)]), False)
        self.assertIsNone(flat.forced((3, 1), [(1, 2), (2, 3)]))
        self.assertIs(flat.forced((1, 3), [(1, 2), (2, 3)]), False)

    def test_eight_keys(self):
        contents = TierList([list(range(8))])
        self.assertEqual((len(contents), len(contents.places()), len(contents.changes())), (0, 56, 254))
        contents = TierList([[key] for key in range(8)])
        self.assertEqual((len(contents), len(contents.changes())), (28, 7))
        chain = [(key, key + 1) for key in range(7)]
        self.assertIs(contents.forced((0, 7), chain), True)
        self.assertIsNone(contents.forced((0, 7), chain[1:]))
        self.assertEqual(contents.like([]).ranks(), [list(range(8))])


if __name__ == "__main__":
    unittest.main()
