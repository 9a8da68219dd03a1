"""Point 30: lists of keys as contents."""

import unittest
from itertools import combinations, permutations

from quorumdrift.errors import InvalidContents
from quorumdrift.orderlists import OrderList
from tests.helpers import DriftCase, shuffled
from tests.kinds import chosen, words_of_list
from tests.test_contents import NO_LISTS, WRONG_KEYS

# Each set of words at the three places of the keys 1, 2, 3 that is read in a circle: 1, 2, 3 and 1, 3, 2.
CIRCLES = [[(1, 2), (2, 3)], [(1, 3)]]


class OrderListTest(DriftCase):
    def test_lists_of_no_key_to_eight_keys(self):
        for size in range(9):
            order = shuffled([9999, 0, 17, 4, 5, 301, 42, 1000][:size], size)
            contents = OrderList(order)
            self.assertEqual(contents.order(), order)
            self.assertEqual(contents.all_keys(), sorted(order))
            self.assertEqual(contents.places(), list(combinations(sorted(order), 2)))
            self.assertEqual(contents.words(), words_of_list(order))
            self.assertEqual(contents.label(), f"orders: {size} keys")

    def test_kind(self):
        self.assertEqual((OrderList.KIND, OrderList([1]).KIND), ("orders", "orders"))
        self.assertEqual(OrderList([]).label(), "orders: 0 keys")

    def test_wrong_lists(self):
        for keys in WRONG_KEYS:
            self.assert_raises(InvalidContents, {}, OrderList, keys)

    def test_keys_in_another_value_than_a_list(self):
        for keys in NO_LISTS:
            self.assert_raises(InvalidContents, {}, OrderList, keys)

    def test_words(self):
        self.assertEqual(OrderList([2, 9, 4]).words(), [(2, 4), (2, 9)])
        self.assertEqual(OrderList([9, 4, 2]).words(), [])
        self.assertIs((2, 9) in OrderList([2, 9, 4]), True)
        self.assertIs((4, 9) in OrderList([2, 9, 4]), False)
        self.assertIs((9, 4) in OrderList([2, 9, 4]), False)

    def test_lists_are_copied(self):
        order = [3, 1, 2]
        contents = OrderList(order)
        order.reverse()
        order.append(4)
        contents.order().clear()
        contents.all_keys().clear()
        contents.places().clear()
        contents.words().clear()
        contents.changes().clear()
        contents.changes()[0].order().clear()
        self.assertEqual((contents.order(), contents.words()), ([3, 1, 2], [(1, 2)]))
        self.assertEqual([other.order() for other in contents.changes()], [[3, 2, 1], [1, 3, 2]])

    def test_equal(self):
        for first in permutations([1, 2, 3]):
            for second in permutations([1, 2, 3]):
                self.assertIs(OrderList(list(first)) == OrderList(list(second)), first == second)

    def test_each_basic_change(self):
        for size in range(6):
            for order in list(permutations(shuffled(range(0, 5 * size, 5), 1)))[::3]:
                turned = [
                    order[:at] + (order[at + 1], order[at]) + order[at + 2:] for at in range(size - 1)
                ]
                found = [tuple(other.order()) for other in OrderList(list(order)).changes()]
                self.assertEqual(found, sorted(turned, key=words_of_list))
        self.assertEqual(OrderList([]).changes() + OrderList([7]).changes(), [])

    def test_the_order_of_the_changes(self):
        found = [other.order() for other in OrderList([1, 2, 3, 4]).changes()]
        self.assertEqual(found, [[1, 2, 4, 3], [1, 3, 2, 4], [2, 1, 3, 4]])
        found = [other.order() for other in OrderList([2, 3, 1]).changes()]
        self.assertEqual(found, [[3, 2, 1], [2, 1, 3]])

    def test_the_conflicts_of_three_keys(self):
        contents = OrderList([2, 3, 1])
        for code in range(8):
            words = chosen([(1, 2), (1, 3), (2, 3)], code)
            wanted = [((1, 2), (1, 3), (2, 3))] if words in CIRCLES else []
            self.assertEqual(contents.conflicts(words), wanted)
            self.assertEqual(contents.conflicts(words[::-1]), wanted)

    def test_the_conflicts_of_more_keys(self):
        keys = [1, 4, 6, 9, 20]
        contents = OrderList(keys)
        for code in range(0, 1024, 3):
            words = chosen(contents.places(), code)
            pairs = [(x, y) if (x, y) in words else (y, x) for x, y in contents.places()]
            wanted = [
                ((x, y), (x, z), (y, z)) for x, y, z in combinations(keys, 3)
                if {(x, y), (y, z), (z, x)} <= set(pairs) or {(y, x), (z, y), (x, z)} <= set(pairs)
            ]
            self.assertEqual(contents.conflicts(words), wanted)

    def test_few_keys_have_no_conflicts(self):
        self.assertEqual(OrderList([]).conflicts([]), [])
        self.assertEqual(OrderList([1, 2]).conflicts([(1, 2), (2, 3), (1, 3)]), [])

    def test_eight_keys(self):
        order = shuffled(range(8), 4)
        contents = OrderList(order)
        self.assertEqual((len(contents.places()), len(contents.changes())), (28, 7))
        self.assertEqual(contents.like(contents.words()).order(), order)
        neighbours = [tuple(sorted(pair)) for pair in zip(order, order[1:])]
        self.assertIs(contents.forced(tuple(sorted([order[0], order[7]])), neighbours), order[0] < order[7])
        self.assertIsNone(contents.forced(tuple(sorted([order[0], order[7]])), neighbours[1:]))


if __name__ == "__main__":
    unittest.main()
