"""Point 25: what a lost replica held."""

import unittest
from itertools import combinations, permutations, product

from quorumdrift.errors import InvalidList, NoReplica, UnlikeKeys
from quorumdrift.readings import Reading, read
from quorumdrift.rebuilding import LostReplica
from quorumdrift.relations import Relation
from quorumdrift.states import State
from tests.helpers import DriftCase, shuffled, stands_before
from tests.oracles import CIRCLE, TRIPLES, TWELVES, state_of
from tests.test_forced import settled_by_swaps
from tests.test_lists import WRONG_LISTS

ROUND = Reading([1, 2, 3], [(1, 2), (2, 3), (3, 1)])
NONE = Reading([], [])


def majority(*orders):
    """The pairs that at least two of three lists have."""
    return {
        (x, y) for x, y in permutations(orders[0], 2)
        if [stands_before(order, x, y) for order in orders].count(True) >= 2
    }


def cases():
    """Two lists and a reading: of all three lists of some state, and readings that are nothing of the kind."""
    found = [([], [], NONE), ([4], [4], Reading([4], []))]
    for state in TRIPLES[::4] + [state_of(size, seed) for size in (4, 5) for seed in range(40, 64)]:
        first, second, _ = state.lists()
        found.append((first, second, read(state)))
        found.append((first, second, read(state_of(len(first), 91)) if len(first) > 3 else read(TRIPLES[50])))
        found.append((first, second, turned_at_one_pair(read(state), len(found))))
    return [case for case in found if sorted(case[0]) == case[2].all_keys()]


def turned_at_one_pair(reading, seed):
    """The reading with one pair, which the number decides, the other way about."""
    pairs = reading.pairs()
    x, y = pairs[seed % len(pairs)]
    return Reading(reading.all_keys(), [pair for pair in pairs if pair != (x, y)] + [(y, x)])


CASES = cases()


def lists_that_fit(first, second, reading):
    """Every list that is read so together with the two others, ascending."""
    wanted = set(reading.pairs())
    return [list(order) for order in permutations(sorted(first)) if majority(first, second, order) == wanted]


def against(reading, order):
    """The pairs, as they are read, at which the list says the opposite, ascending."""
    return [(x, y) for x, y in reading.pairs() if stands_before(order, y, x)]


def fault_of(first, second, reading):
    """Why no list fits, by the document's words."""
    both = [pair for pair in against(reading, first) if pair in against(reading, second)]
    if both:
        return ("both", *both[0])
    relation = Relation(first, against(reading, first) + against(reading, second))
    return None if relation.cycle() is None else ("cycle", tuple(relation.cycle()))


class FitTest(DriftCase):
    def test_against_a_search(self):
        counts = {True: 0, False: 0}
        for first, second, reading in CASES:
            lost = LostReplica(first, second, reading)
            fitting = lists_that_fit(first, second, reading)
            self.assertEqual(lost.order_count(), len(fitting))
            self.assertIs(type(lost.order_count()), int)
            for order in permutations(sorted(first)):
                self.assertIs(lost.accepts(list(order)), list(order) in fitting)
                counts[list(order) in fitting] += 1
        self.assertGreater(min(counts.values()), 100)

    def test_the_least_the_settled_list_and_the_state(self):
        many = 0
        for first, second, reading in CASES:
            fitting = lists_that_fit(first, second, reading)
            if fitting:
                lost = LostReplica(first, second, reading)
                self.assertEqual(lost.least(), fitting[0])
                self.assertEqual(lost.state(), State(first, second, fitting[0]))
                settled = [settled_by_swaps(State(first, second, order)).list_of(2) for order in fitting]
                self.assertEqual(settled, [lost.settled_list()] * len(fitting))
                self.assertEqual(read(lost.state()), reading)
                many += len(fitting) > 1
        self.assertGreater(many, 20)

    def test_none_fits(self):
        kinds = {"both": 0, "cycle": 0}
        for first, second, reading in CASES:
            if not lists_that_fit(first, second, reading):
                lost = LostReplica(first, second, reading)
                reason = {"reason": fault_of(first, second, reading)}
                for action in (lost.least, lost.settled_list, lost.state):
                    self.assert_raises(NoReplica, reason, action)
                kinds[lost.fault()[0]] += 1
        self.assertGreater(min(kinds.values()), 3)


class RelationTest(DriftCase):
    def test_its_pairs(self):
        for first, second, reading in CASES:
            relation = LostReplica(first, second, reading).relation()
            given = against(reading, first) + against(reading, second)
            self.assertIs(type(relation), Relation)
            self.assertEqual(relation, Relation(first, given))
            for x, y in permutations(first, 2):
                # Only a pair that was given has a path without a key between.
                self.assertIs(relation.path(x, y) == [x, y], (x, y) in given)

    def test_it_keeps_what_fits(self):
        for first, second, reading in CASES:
            lost = LostReplica(first, second, reading)
            if lost.fault() is None or lost.fault()[0] != "both":
                self.assertEqual(list(lost.relation().each_order()), lists_that_fit(first, second, reading))


class FaultTest(DriftCase):
    def test_against_the_words(self):
        kinds = {None: 0, "both": 0, "cycle": 0}
        for first, second, reading in CASES:
            fault = LostReplica(first, second, reading).fault()
            self.assertEqual(fault, fault_of(first, second, reading))
            self.assertIs(fault is None, lists_that_fit(first, second, reading) != [])
            kinds[fault and fault[0]] += 1
        self.assertGreater(min(kinds.values()), 3)

    def test_both_lists_against_the_reading(self):
        self.assertEqual(LostReplica([2, 1], [2, 1], Reading([1, 2], [(1, 2)])).fault(), ("both", 1, 2))
        reading = Reading([1, 2, 3], [(3, 1), (3, 2), (2, 1)])
        self.assertEqual(LostReplica([1, 2, 3], [1, 2, 3], reading).fault(), ("both", 2, 1))
        self.assertEqual(LostReplica([1, 2, 3], [2, 1, 3], reading).fault(), ("both", 3, 1))
        # The fault of both lists comes before a cycle.
        self.assertEqual(LostReplica([3, 2, 1], [3, 2, 1], ROUND).fault(), ("both", 1, 2))

    def test_a_cycle(self):
        fault = LostReplica([1, 3, 2], [2, 3, 1], ROUND).fault()
        self.assertEqual(fault, ("cycle", (1, 2, 3)))
        self.assertIs(type(fault[1]), tuple)
        lost = LostReplica([1, 3, 2], [2, 3, 1], ROUND)
        self.assertEqual((lost.order_count(), lost.accepts([1, 2, 3])), (0, False))
        for action in (lost.least, lost.settled_list, lost.state):
            self.assert_raises(NoReplica, {"reason": ("cycle", (1, 2, 3))}, action)

    def test_no_list_fits_where_both_are_wrong_although_the_relation_keeps_some(self):
        lost = LostReplica([2, 1], [2, 1], Reading([1, 2], [(1, 2)]))
        self.assertEqual(lost.relation().order_count(), 1)
        self.assertEqual((lost.order_count(), lost.accepts([1, 2]), lost.accepts([2, 1])), (0, False, False))
        for action in (lost.least, lost.settled_list, lost.state):
            self.assert_raises(NoReplica, {"reason": ("both", 1, 2)}, action)


class FewAndManyKeysTest(DriftCase):
    def test_no_keys(self):
        lost = LostReplica([], [], NONE)
        self.assertEqual((lost.fault(), lost.order_count(), lost.accepts([])), (None, 1, True))
        self.assertEqual((lost.least(), lost.settled_list(), lost.state()), ([], [], State([], [], [])))
        self.assertEqual(lost.relation(), Relation([], []))

    def test_one_key(self):
        lost = LostReplica([4], [4], Reading([4], []))
        self.assertEqual((lost.fault(), lost.order_count(), lost.accepts([4])), (None, 1, True))
        self.assertEqual((lost.least(), lost.settled_list(), lost.state()), ([4], [4], State.same([4])))

    def test_the_document_s_three_keys(self):
        lost = LostReplica([1, 2, 3], [2, 3, 1], ROUND)
        self.assertEqual([lost.order_count(), lost.settled_list()], [1, [3, 1, 2]])
        self.assertEqual((lost.least(), lost.state()), ([3, 1, 2], CIRCLE))

    def test_two_lists_that_agree_leave_all_free(self):
        order = shuffled(range(12), 4)
        lost = LostReplica(order, order, read(State.same(order)))
        self.assertEqual((lost.order_count(), lost.least()), (479001600, list(range(12))))
        self.assertEqual(lost.settled_list(), order)
        self.assertEqual(lost.state(), State(order, order, list(range(12))))

    def test_twelve_keys(self):
        for state in TWELVES + [state_of(12, seed) for seed in (5, 9)]:
            lost = LostReplica(*state.lists()[:2], read(state))
            self.assertIsNone(lost.fault())
            self.assertIs(lost.accepts(state.list_of(2)), True)
            self.assertEqual(lost.settled_list(), settled_by_swaps(state).list_of(2))
            self.assertEqual(read(lost.state()), read(state))
            self.assertTrue(lost.least() <= state.list_of(2))


class ErrorsTest(DriftCase):
    def test_wrong_lists(self):
        for order, place in WRONG_LISTS:
            for second in ([1, 2, 3], [7], [2, 2]):
                self.assert_raises(InvalidList, {"place": place}, LostReplica, order, second, ROUND)
            for first in ([1, 2, 3], [7]):
                self.assert_raises(InvalidList, {"place": place}, LostReplica, first, order, ROUND)
            self.assert_raises(InvalidList, {"place": place}, LostReplica([1, 2, 3], [1, 2, 3], ROUND).accepts, order)

    def test_unlike_keys(self):
        cases_of_unlike_keys = [
            ([1, 2, 3], [1, 2], 3), ([1, 2], [3, 1, 2], 3), ([], [5, 4], 4), ([7, 1], [8, 1], 7),
            # The two lists come before the reading, which lacks still lesser keys.
            ([1, 2, 3, 0], [1, 2, 3, 0, 9], 9), ([8, 9], [8, 7], 7),
            ([1, 2], [2, 1], 3), ([1, 2, 3, 4], [4, 3, 2, 1], 4), ([], [], 1), ([0, 1, 2, 3], [0, 1, 2, 3], 0),
        ]
        for first, second, key in cases_of_unlike_keys:
            self.assert_raises(UnlikeKeys, {"key": key}, LostReplica, first, second, ROUND)
        for order, key in (([], 1), ([1, 2], 3), ([3, 4, 1, 2], 4), ([1, 2, 0], 0)):
            self.assert_raises(UnlikeKeys, {"key": key}, LostReplica([1, 2, 3], [1, 2, 3], ROUND).accepts, order)

    def test_accepts_checks_also_where_no_list_fits(self):
        lost = LostReplica([2, 1], [2, 1], Reading([1, 2], [(1, 2)]))
        self.assert_raises(InvalidList, {"place": 1}, lost.accepts, [1, 1])
        self.assert_raises(UnlikeKeys, {"key": 2}, lost.accepts, [1])

    def test_lists_are_copied(self):
        first, second = [1, 2, 3], [2, 3, 1]
        lost = LostReplica(first, second, ROUND)
        self.assertEqual((first, second), ([1, 2, 3], [2, 3, 1]))
        first.reverse()
        second.append(9)
        order = [3, 1, 2]
        self.assertIs(lost.accepts(order), True)
        self.assertEqual(order, [3, 1, 2])
        lost.least().reverse()
        lost.settled_list().clear()
        lost.state().lists()[2].clear()
        lost.relation().closed().clear()
        self.assertEqual((lost.least(), lost.settled_list(), lost.state()), ([3, 1, 2], [3, 1, 2], CIRCLE))
        self.assertEqual(lost.relation().closed(), [(1, 2), (3, 1), (3, 2)])

    def test_every_pair_of_lists_and_every_reading_of_three_keys(self):
        lists = [list(order) for order in permutations([1, 2, 3])]
        pairs = list(combinations([1, 2, 3], 2))
        for first, second, turned in product(lists, lists, product((False, True), repeat=3)):
            reading = Reading([1, 2, 3], [pair[::-1] if turn else pair for pair, turn in zip(pairs, turned)])
            lost = LostReplica(first, second, reading)
            fitting = [order for order in lists if majority(first, second, order) == set(reading.pairs())]
            self.assertEqual(lost.order_count(), len(fitting))
            self.assertEqual(lost.fault(), fault_of(first, second, reading))
            self.assertEqual([order for order in lists if lost.accepts(order)], fitting)


if __name__ == "__main__":
    unittest.main()
