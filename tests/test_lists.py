"""Point 6: functions on single lists."""

import unittest
from itertools import permutations

from quorumdrift.errors import InvalidList, InvalidSwap, UnlikeKeys
from quorumdrift.lists import check_list, differing_pairs, straight_swaps, swap_at
from tests.helpers import DriftCase, shuffled, stands_before

TWELVE = [9999, 0, 7, 3, 100, 11, 12, 13, 14, 15, 16, 17]

# Each list with its least wrong index.
WRONG_LISTS = [
    ([-1], 0),
    ([10000], 0),
    ([5, -1, 10000], 1),
    ([5, 10000, -1], 1),
    ([5, 5], 1),
    ([5, 6, 6, -1], 2),
    ([5, 6, 10000, 5], 2),
    ([1, 2, 3, 2, 1], 3),
    (list(range(13)), 12),
    (list(range(40)), 12),
    (list(range(12)) + [3], 12),
    (list(range(12)) + [-1], 12),
    (list(range(11)) + [10000, 12], 11),
    (list(range(11)) + [0, 12], 11),
    ([-5] * 20, 0),
    ([4] * 20, 1),
]


class CheckListTest(DriftCase):
    def test_right_lists_give_none(self):
        for order in ([], [0], [9999], [3, 1, 2], TWELVE):
            self.assertIsNone(check_list(order))

    def test_least_wrong_index(self):
        for order, place in WRONG_LISTS:
            with self.subTest(order=order):
                self.assert_raises(InvalidList, {"place": place}, check_list, order)


class SwapAtTest(DriftCase):
    def test_exchanges_two_neighbours(self):
        self.assertEqual(swap_at([4, 5, 6], 0), [5, 4, 6])
        self.assertEqual(swap_at([4, 5, 6], 1), [4, 6, 5])
        self.assertEqual(swap_at([4, 5], 0), [5, 4])

    def test_each_index_of_twelve_keys(self):
        for index in range(11):
            expected = list(TWELVE)
            expected[index], expected[index + 1] = expected[index + 1], expected[index]
            self.assertEqual(swap_at(TWELVE, index), expected)

    def test_indexes_out_of_range(self):
        for order in ([], [7], [7, 8], [7, 8, 9], TWELVE):
            for index in (-10000, -2, -1, len(order) - 1, len(order), len(order) + 1, 10000):
                with self.subTest(order=order, index=index):
                    self.assert_raises(InvalidSwap, {"step": 0}, swap_at, order, index)

    def test_the_list_is_checked_before_the_index(self):
        for order, place in WRONG_LISTS:
            for index in (-1, 0, 99):
                with self.subTest(order=order, index=index):
                    self.assert_raises(InvalidList, {"place": place}, swap_at, order, index)


class TwoListsTest(DriftCase):
    ACTIONS = (differing_pairs, straight_swaps)

    def test_the_first_list_is_checked_first(self):
        for action in self.ACTIONS:
            self.assert_raises(InvalidList, {"place": 1}, action, [4, 4], [-1])
            self.assert_raises(InvalidList, {"place": 0}, action, [-1, 4], [4, 4])
            self.assert_raises(InvalidList, {"place": 0}, action, [10000], [4])

    def test_the_second_list_is_checked_before_the_keys(self):
        for action in self.ACTIONS:
            self.assert_raises(InvalidList, {"place": 2}, action, [1, 2], [7, 8, 7])
            self.assert_raises(InvalidList, {"place": 12}, action, [1, 2], list(range(13)))
            self.assert_raises(InvalidList, {"place": 0}, action, [], [-3])

    def test_each_wrong_list_in_both_places(self):
        for action in self.ACTIONS:
            for order, place in WRONG_LISTS:
                with self.subTest(action=action, order=order):
                    self.assert_raises(InvalidList, {"place": place}, action, order, [1])
                    self.assert_raises(InvalidList, {"place": place}, action, [1], order)

    def test_unlike_keys_by_the_least_key_of_either_list(self):
        for action in self.ACTIONS:
            self.assert_raises(UnlikeKeys, {"key": 3}, action, [9, 1, 3], [1, 5, 9])
            self.assert_raises(UnlikeKeys, {"key": 3}, action, [1, 5, 9], [9, 1, 3])
            self.assert_raises(UnlikeKeys, {"key": 0}, action, [], [2, 0, 1])
            self.assert_raises(UnlikeKeys, {"key": 0}, action, [2, 0, 1], [])
            self.assert_raises(UnlikeKeys, {"key": 8}, action, [8, 7, 9], [7])
            self.assert_raises(UnlikeKeys, {"key": 3}, action, [9000, 8000, 3], [16, 5000])

    def test_empty_lists(self):
        for action in self.ACTIONS:
            self.assertEqual(action([], []), [])
            self.assertEqual(action([4], [4]), [])


class DifferingPairsTest(DriftCase):
    def test_ascending_in_the_direction_of_the_first_list(self):
        self.assertEqual(differing_pairs([3, 1, 2], [1, 2, 3]), [(3, 1), (3, 2)])
        self.assertEqual(differing_pairs([1, 2, 3], [3, 1, 2]), [(1, 3), (2, 3)])
        self.assertEqual(differing_pairs([3, 2, 1], [1, 2, 3]), [(2, 1), (3, 1), (3, 2)])

    def test_against_the_definition_for_all_lists_of_four_keys(self):
        keys = [2, 30, 4, 9]
        for first in permutations(keys):
            for second in permutations(keys):
                expected = sorted(
                    (x, y) for x in keys for y in keys
                    if stands_before(first, x, y) and stands_before(second, y, x)
                )
                self.assertEqual(differing_pairs(list(first), list(second)), expected)

    def test_twelve_keys(self):
        pairs = differing_pairs(list(range(12)), list(range(11, -1, -1)))
        self.assertEqual(pairs, [(x, y) for x in range(12) for y in range(x + 1, 12)])


class StraightSwapsTest(DriftCase):
    def check(self, first, second):
        order = list(first)
        indexes = straight_swaps(list(first), list(second))
        for index in indexes:
            turned = [
                place for place in range(len(order) - 1)
                if stands_before(second, order[place + 1], order[place])
            ]
            self.assertEqual(index, turned[0])
            order[index], order[index + 1] = order[index + 1], order[index]
        self.assertEqual(order, list(second))
        self.assertEqual(len(indexes), len(differing_pairs(list(first), list(second))))

    def test_examples(self):
        self.assertEqual(straight_swaps([1, 2, 3], [1, 2, 3]), [])
        self.assertEqual(straight_swaps([1, 2, 3], [3, 1, 2]), [1, 0])
        self.assertEqual(straight_swaps([3, 2, 1], [1, 2, 3]), [0, 1, 0])

    def test_all_lists_of_four_keys(self):
        for first in permutations([5, 0, 8, 6]):
            for second in permutations([5, 0, 8, 6]):
                self.check(first, second)

    def test_twelve_keys(self):
        self.check(list(range(12)), list(range(11, -1, -1)))
        for seed in range(20):
            self.check(shuffled(TWELVE, seed), shuffled(TWELVE, seed + 100))


if __name__ == "__main__":
    unittest.main()
