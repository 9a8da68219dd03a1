"""Point 22: the states of one class."""

import unittest
from itertools import islice

from quorumdrift.errors import TooMany
from quorumdrift.freedom import Freedom
from quorumdrift.members import class_size, each_member
from quorumdrift.reach import reaches
from quorumdrift.settling import settle
from quorumdrift.states import State
from tests.helpers import DriftCase, within_steps
from tests.oracles import CIRCLE, EMPTY, FOURS, PAIRS, SINGLE, TRIPLES, TWELVES
from tests.oracles import circles, members_of, state_of, walked

FIVES = [state for state in (state_of(5, seed) for seed in range(41, 161, 2)) if circles(state)][:9]
SIXES = [state for state in (state_of(6, seed) for seed in range(1, 161, 2)) if len(circles(state)) > 9][:4]
SMALL = [EMPTY, SINGLE, CIRCLE] + PAIRS + TRIPLES[::5] + FOURS[::2] + FIVES + SIXES
CLASSES = [(state, members_of(state)) for state in SMALL]


def product_of(state):
    """The product of the numbers of lists that the replicas have in the states of the class."""
    members = members_of(state)
    product = 1
    for replica in range(3):
        product *= len({tuple(lists[replica]) for lists in members})
    return product


class EachMemberTest(DriftCase):
    def test_against_a_search(self):
        sizes = set()
        for state, members in CLASSES:
            found = [member.lists() for member in each_member(state)]
            self.assertEqual(found, members)
            self.assertIn(state.lists(), found)
            sizes.add(len(members))
        self.assertIn(1, sizes)
        self.assertGreater(len(sizes), 8)

    def test_states(self):
        for state in (EMPTY, CIRCLE, FOURS[3]):
            for member in each_member(state):
                self.assertIs(type(member), State)
                self.assertTrue(reaches(state, member))

    def test_of_any_state_of_the_class(self):
        for state, members in CLASSES[::4]:
            self.assertEqual([member.lists() for member in each_member(walked(state, 20, 1))], members)

    def test_three_keys(self):
        self.assertEqual(list(each_member(EMPTY)), [EMPTY])
        self.assertEqual(list(each_member(CIRCLE)), [CIRCLE])
        found = [str(member) for member in each_member(State.same([1, 2]))]
        self.assertEqual(found, ["1 2 / 1 2 / 1 2", "1 2 / 1 2 / 2 1", "1 2 / 2 1 / 1 2", "2 1 / 1 2 / 1 2"])

    def test_left_early(self):
        order = list(range(12))
        state = State(order[::-1], order, order)
        found = within_steps(200000, lambda: list(islice(each_member(state), 3)))
        self.assertEqual([member.lists()[:2] for member in found], [[order, order]] * 3)
        wanted = [order, order[:10] + [11, 10], order[:9] + [10, 9, 11]]
        self.assertEqual([member.list_of(2) for member in found], wanted)
        for state in TWELVES:
            found = within_steps(200000, lambda: list(islice(each_member(state), 2)))
            self.assertTrue(all(reaches(state, member) for member in found))
            self.assertEqual(found, sorted(found, key=State.lists))

    def test_the_last_ones_can_be_many(self):
        # The greatest first list of the class leaves few lists to the others.
        order = list(range(5))
        found = [member.lists() for member in each_member(State.same(order))]
        self.assertEqual((len(found), found[0], found[-1]), (9730, [order] * 3, [order[::-1], order, order]))
        self.assertEqual(found, sorted(found))

    def test_what_is_yielded_can_be_changed(self):
        state = State.same([1, 2, 3])
        wanted = [member.lists() for member in each_member(state)]
        found = []
        for member in each_member(state):
            found.append(member.lists())
            member.lists()[0].reverse()
            member.list_of(1).append(5)
        self.assertEqual(found, wanted)
        self.assertEqual(state, State.same([1, 2, 3]))


class ClassSizeTest(DriftCase):
    def test_against_a_search(self):
        for state, members in CLASSES:
            self.assertEqual(class_size(state, limit=10 ** 9), len(members))
            self.assertEqual(class_size(walked(state, 9, 2), limit=10 ** 9), len(members))

    def test_as_many_as_each_member_yields(self):
        for state in FIVES + SIXES + [State.same(list(range(5)))]:
            self.assertEqual(class_size(state, limit=10 ** 9), len(list(each_member(state))))

    def test_the_limit_just_met_and_just_passed(self):
        passed = 0
        for state, members in CLASSES:
            product = product_of(state)
            self.assertEqual(class_size(state, limit=product), len(members))
            self.assertEqual(class_size(state, limit=product + 1), len(members))
            self.assert_raises(TooMany, {"limit": product - 1}, class_size, state, limit=product - 1)
            passed += product > len(members)
        # It is the product that counts, not the number of states.
        self.assertGreater(passed, 20)

    def test_limit_zero(self):
        for state in (EMPTY, SINGLE, CIRCLE, TWELVES[0]):
            self.assert_raises(TooMany, {"limit": 0}, class_size, state, limit=0)
        for state in (EMPTY, SINGLE, CIRCLE):
            self.assertEqual(class_size(state, limit=1), 1)

    def test_the_limit_if_none_is_named(self):
        found = set()
        for state in [State.same([1, 2, 3]), State.same([1, 2, 3, 4]), State.same(list(range(5)))] + FIVES + TWELVES:
            product = 1
            for replica in range(3):
                product *= Freedom(state).list_count(replica)
            found.add(product > 10000)
            if product > 10000:
                self.assert_raises(TooMany, {"limit": 10000}, class_size, state)
            else:
                self.assertEqual(class_size(state), len(members_of(state)))
        self.assertEqual(found, {True, False})

    def test_the_limit_that_is_met_if_none_is_named(self):
        # Products near 10000: 24 * 24 * 24 is above it, 6 * 6 * 6 far below.
        self.assertEqual(class_size(State.same([3, 1, 2])), 34)
        self.assert_raises(TooMany, {"limit": 10000}, class_size, State.same([1, 2, 3, 4]))
        self.assertEqual(class_size(State.same([1, 2, 3, 4]), limit=13824), len(members_of(State.same([1, 2, 3, 4]))))

    def test_too_many_is_told_at_once(self):
        state = State.same(list(range(12)))
        with self.assertRaises(TooMany):
            within_steps(2000000, lambda: class_size(state))

    def test_limit_by_keyword_only(self):
        self.assertRaises(TypeError, class_size, EMPTY, 5)

    def test_the_state_stays_as_it_was(self):
        state = State([2, 1, 3], [1, 2, 3], [1, 3, 2])
        class_size(state)
        list(each_member(state))
        self.assertEqual(state.lists(), [[2, 1, 3], [1, 2, 3], [1, 3, 2]])
        self.assertEqual(next(each_member(state)), State.same([1, 2, 3]))
        self.assertEqual(next(each_member(state)), settle(state))


if __name__ == "__main__":
    unittest.main()
