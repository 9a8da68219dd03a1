"""Point 8: states."""

import unittest
from itertools import permutations, product

from quorumdrift.errors import InvalidLine, InvalidState, SharedKey, UnknownKey, UnknownReplica
from quorumdrift.states import State
from tests.helpers import DriftCase, shuffled, stands_before
from tests.test_lists import WRONG_LISTS

KEYS = [7, 0, 9999]
STATES = [State(*map(list, lists)) for lists in product(permutations(KEYS), repeat=3)]
EMPTY = State([], [], [])
TWELVE = State(*[shuffled(range(0, 1200, 100), seed) for seed in range(3)])

# Each is nearly the text of a state.
WRONG_TEXTS = [
    "", " ", "1", "1 / 1", "1 / 1 / 1 / 1", " / ", " / / ", "/ /", "//", " /  /  / ", " /  /", "/  / ", "  /  /  ",
    "1/1/1", "1 /1 / 1", "1/ 1 / 1", "1 / 1 /1", "1  / 1 / 1", "1 /  1 / 1", "1 / 1 / 1 ", " 1 / 1 / 1",
    "1 / 1 / 1\n", "\n1 / 1 / 1", "1 / 1\n / 1", "1\n/ 1 / 1", "1\t/ 1 / 1", "1 2 / 2 1 / 1\t2",
    "1  2 / 1 2 / 1 2", "1 2 / 1 2 / 1\n2", "1 2 / 2 1 / 1 2 / ", " / 1 2 / 2 1 / 1 2", "1 2 / 2 1 / 1 2 /",
    "+1 / 1 / 1", "-1 / -1 / -1", "1 / 1 / +1", "-0 / 0 / 0", "01 / 1 / 1", "1 / 1 / 01", "00 / 0 / 0",
    "10000 / 10000 / 10000", "00001 / 1 / 1", "1_0 / 10 / 10", "1.0 / 1 / 1", "0x1 / 1 / 1", "1e1 / 10 / 10",
    "a / a / a", "1 / 1 / a", "1, 2 / 1 2 / 1 2", "\u0661 / 1 / 1", "\u00b2 / 2 / 2", "\uff11 / \uff11 / \uff11",
    "1\u00a02 / 1 2 / 1 2", "1 / 2 / 1", "1 2 / 1 2 / 1", "1 2 / 1 2 / 1 3", "1 2 / 1 2 / 1 2 3", "1 /  / 1",
    "1 1 / 1 1 / 1 1", "1 2 / 1 2 / 1 1", "9" * 5000 + " / 1 / 1", "1 \\ 1 \\ 1", "1 | 1 | 1", "[1] / [1] / [1]",
    " / ".join([" ".join(str(key) for key in range(13))] * 3),
]


class NewStateTest(DriftCase):
    def test_class_value(self):
        self.assertEqual(State.REPLICAS, 3)
        self.assertEqual(EMPTY.REPLICAS, 3)

    def test_lists_and_keys(self):
        state = State([3, 1, 2], [1, 2, 3], [2, 3, 1])
        self.assertEqual(state.lists(), [[3, 1, 2], [1, 2, 3], [2, 3, 1]])
        self.assertEqual([state.list_of(replica) for replica in (0, 1, 2)], state.lists())
        self.assertEqual(state.all_keys(), [1, 2, 3])
        self.assertEqual(EMPTY.lists(), [[], [], []])
        self.assertEqual(EMPTY.all_keys(), [])
        self.assertEqual(TWELVE.all_keys(), list(range(0, 1200, 100)))

    def test_wrong_lists(self):
        for order, _ in WRONG_LISTS:
            with self.subTest(order=order):
                self.assert_raises(InvalidState, {"replica": 0}, State, order, order, order)
                self.assert_raises(InvalidState, {"replica": 0}, State, order, [1], [2])
                self.assert_raises(InvalidState, {"replica": 1}, State, [1], order, [2])
                self.assert_raises(InvalidState, {"replica": 2}, State, [1], [1], order)

    def test_unlike_keys(self):
        self.assert_raises(InvalidState, {"replica": 1}, State, [1, 2], [1, 3], [4, 4])
        self.assert_raises(InvalidState, {"replica": 1}, State, [1, 2], [1], [1, 2])
        self.assert_raises(InvalidState, {"replica": 1}, State, [1, 2], [], [])
        self.assert_raises(InvalidState, {"replica": 1}, State, [1], [1, 2], [1])
        self.assert_raises(InvalidState, {"replica": 2}, State, [1, 2], [2, 1], [1, 2, 3])
        self.assert_raises(InvalidState, {"replica": 2}, State, [1, 2], [2, 1], [1, 1])

    def test_of_takes_exactly_three_lists(self):
        for state in STATES[::20] + [EMPTY, TWELVE]:
            self.assertEqual(State.of(*state.lists()), state)
        self.assert_raises(InvalidState, {"replica": 0}, State.of)
        self.assert_raises(InvalidState, {"replica": 1}, State.of, [1])
        self.assert_raises(InvalidState, {"replica": 2}, State.of, [1], [1])
        self.assert_raises(InvalidState, {"replica": 3}, State.of, [1], [1], [1], [1])
        self.assert_raises(InvalidState, {"replica": 3}, State.of, [1], [1], [1], [1], [1])

    def test_of_counts_before_it_looks_at_the_lists(self):
        self.assert_raises(InvalidState, {"replica": 1}, State.of, [1, 1])
        self.assert_raises(InvalidState, {"replica": 2}, State.of, [1, 1], [2])
        self.assert_raises(InvalidState, {"replica": 3}, State.of, [1, 1], [2], [-1], [3])
        self.assert_raises(InvalidState, {"replica": 0}, State.of, [1, 1], [2], [3])
        self.assert_raises(InvalidState, {"replica": 1}, State.of, [1], [2], [3])

    def test_same(self):
        for order in ([], [4], [3, 1, 2], TWELVE.list_of(1)):
            self.assertEqual(State.same(order).lists(), [order] * 3)
        for order, _ in WRONG_LISTS:
            self.assert_raises(InvalidState, {"replica": 0}, State.same, order)


class TextTest(DriftCase):
    def test_texts(self):
        self.assertEqual(str(State([3, 10], [10, 3], [3, 10])), "3 10 / 10 3 / 3 10")
        self.assertEqual(str(EMPTY), " /  / ")
        self.assertEqual(str(State.same([0])), "0 / 0 / 0")

    def test_forth_and_back(self):
        for state in STATES + [EMPTY, TWELVE, State.same([0]), State.same([9999, 1000, 10])]:
            text = " / ".join(" ".join(map(str, order)) for order in state.lists())
            self.assertEqual(str(state), text)
            self.assertEqual(State.read(text).lists(), state.lists())

    def test_what_is_no_text_of_a_state(self):
        for text in WRONG_TEXTS:
            with self.subTest(text=text[:80]):
                self.assert_raises(InvalidLine, {"line": 1}, State.read, text)

    def test_no_other_sign_may_stand_anywhere(self):
        text = "1 20 / 20 1 / 1 20"
        for place in range(len(text) + 1):
            for sign in " \n\t+-/.,_":
                wrong = text[:place] + sign + text[place:]
                with self.subTest(text=wrong):
                    self.assert_raises(InvalidLine, {"line": 1}, State.read, wrong)


class QuestionsTest(DriftCase):
    def test_positions_and_words(self):
        for state in STATES[::7] + [TWELVE]:
            for replica, order in enumerate(state.lists()):
                for x, y in product(state.all_keys(), repeat=2):
                    self.assertEqual(state.position(replica, x), order.index(x))
                    self.assertIs(state.says(replica, x, y), stands_before(order, x, y))

    def test_unknown_replica_comes_first(self):
        state = State([1, 2], [2, 1], [1, 2])
        for replica in (-1, -3, 3, 4, 10000):
            wanted = {"replica": replica}
            self.assert_raises(UnknownReplica, wanted, state.list_of, replica)
            self.assert_raises(UnknownReplica, wanted, state.says, replica, 1, 2)
            self.assert_raises(UnknownReplica, wanted, state.says, replica, 8, 9)
            self.assert_raises(UnknownReplica, wanted, state.position, replica, 1)
            self.assert_raises(UnknownReplica, wanted, state.position, replica, 9)
            self.assert_raises(UnknownReplica, wanted, state.with_list, replica, [1, 2])
            self.assert_raises(UnknownReplica, wanted, state.with_list, replica, [1, 1])

    def test_unknown_keys(self):
        state = State([1, 2], [2, 1], [1, 2])
        for replica in (0, 1, 2):
            self.assert_raises(UnknownKey, {"key": 9}, state.says, replica, 9, 8)
            self.assert_raises(UnknownKey, {"key": 9}, state.says, replica, 9, 1)
            self.assert_raises(UnknownKey, {"key": 8}, state.says, replica, 1, 8)
            self.assert_raises(UnknownKey, {"key": 8}, state.says, replica, 8, 8)
            self.assert_raises(UnknownKey, {"key": 0}, state.position, replica, 0)
            self.assert_raises(UnknownKey, {"key": 0}, EMPTY.position, replica, 0)

    def test_with_list(self):
        state = State([1, 2, 3], [2, 1, 3], [3, 1, 2])
        for replica in (0, 1, 2):
            expected = state.lists()
            expected[replica] = [3, 2, 1]
            self.assertEqual(state.with_list(replica, [3, 2, 1]).lists(), expected)
            self.assertEqual(state.with_list(replica, state.list_of(replica)), state)
        self.assertEqual(state.lists(), [[1, 2, 3], [2, 1, 3], [3, 1, 2]])

    def test_with_list_refuses_other_lists(self):
        state = State([1, 2], [2, 1], [1, 2])
        for replica in (0, 1, 2):
            wanted = {"replica": replica}
            for order in ([], [1], [2], [1, 3], [1, 2, 3], [1, 1], [1, 2, 2], [1, -2], [10000, 1]):
                self.assert_raises(InvalidState, wanted, state.with_list, replica, order)
            for order, _ in WRONG_LISTS:
                self.assert_raises(InvalidState, wanted, state.with_list, replica, order)


class OperatorTest(DriftCase):
    def test_equal_lists(self):
        for place, state in enumerate(STATES[:40]):
            for other_place, other in enumerate(STATES[:40]):
                self.assertIs(state == State(*other.lists()), place == other_place)
                self.assertIs(state != State(*other.lists()), place != other_place)

    def test_unlike_keys_are_unequal(self):
        self.assertIs(State.same([1]) == State.same([2]), False)
        self.assertIs(State.same([1]) == EMPTY, False)
        self.assertIs(EMPTY == State.same([1, 2]), False)
        self.assertIs(State([], [], []) == EMPTY, True)

    def test_length_and_membership(self):
        self.assertEqual([len(EMPTY), len(STATES[0]), len(TWELVE)], [0, 3, 12])
        for key in (0, 7, 9999):
            self.assertIs(key in STATES[5], True)
            self.assertIs(key in EMPTY, False)
        for key in (-1, 1, 70, 10000):
            self.assertIs(key in STATES[5], False)

    def test_sum(self):
        first = State([1, 2], [2, 1], [1, 2])
        second = State([5, 4], [4, 5], [5, 4])
        self.assertEqual((first + second).lists(), [[1, 2, 5, 4], [2, 1, 4, 5], [1, 2, 5, 4]])
        self.assertEqual((second + first).lists(), [[5, 4, 1, 2], [4, 5, 2, 1], [5, 4, 1, 2]])
        self.assertEqual(first + EMPTY, first)
        self.assertEqual(EMPTY + first, first)
        self.assertEqual(first.lists(), [[1, 2], [2, 1], [1, 2]])

    def test_sum_of_shared_keys(self):
        first = State.same([9, 3, 5])
        self.assert_raises(SharedKey, {"key": 3}, first.__add__, State.same([5, 3, 1]))
        self.assert_raises(SharedKey, {"key": 5}, first.__add__, State.same([5, 1]))
        self.assert_raises(SharedKey, {"key": 3}, first.__add__, first)
        far = State.same([9000, 8000, 3])
        self.assert_raises(SharedKey, {"key": 3}, far.__add__, far)

    def test_sum_of_too_many_keys(self):
        six = State.same(list(range(6)))
        self.assertEqual(len(six + State.same(list(range(6, 12)))), 12)
        self.assert_raises(InvalidState, {"replica": 0}, six.__add__, State.same(list(range(6, 13))))
        self.assert_raises(InvalidState, {"replica": 0}, TWELVE.__add__, State.same([1]))
        self.assert_raises(SharedKey, {"key": 5}, six.__add__, State.same(list(range(5, 17))))

    def test_without_a_key(self):
        state = State([1, 2, 3], [3, 2, 1], [2, 1, 3])
        self.assertEqual((state - 1).lists(), [[2, 3], [3, 2], [2, 3]])
        self.assertEqual((state - 2).lists(), [[1, 3], [3, 1], [1, 3]])
        self.assertEqual((state - 3).lists(), [[1, 2], [2, 1], [2, 1]])
        self.assertEqual(State.same([0]) - 0, EMPTY)
        self.assertEqual(state.lists(), [[1, 2, 3], [3, 2, 1], [2, 1, 3]])
        self.assert_raises(UnknownKey, {"key": 4}, state.__sub__, 4)
        self.assert_raises(UnknownKey, {"key": 0}, EMPTY.__sub__, 0)

    def test_reversed(self):
        for state in STATES[::11] + [EMPTY, TWELVE]:
            self.assertEqual((-state).lists(), [list(reversed(order)) for order in state.lists()])
            self.assertEqual(-(-state), state)


if __name__ == "__main__":
    unittest.main()
