"""Point 17: what follows from pinned pairs, and which dissents are forced or voluntary."""

import unittest
from itertools import permutations

from quorumdrift.errors import UnknownReplica
from quorumdrift.forced import closed_home, forced_dissents, voluntary_dissents, word_relation
from quorumdrift.relations import Relation
from quorumdrift.settling import settle, settle_length
from quorumdrift.states import State
from tests.helpers import DriftCase, shuffled
from tests.oracles import CIRCLE, EMPTY, SINGLE, STATES, TRIPLES, TWELVES, WRONG_REPLICAS
from tests.oracles import dissenters, pinned_pairs, read_pairs, state_of, swapped, swaps_home

# Few states of few keys have both cycles and free pairs; odd seeds give lists that are far from each other.
SAMPLES = STATES + [state_of(size, seed) for size in (6, 8) for seed in range(61, 121, 2)]
SAMPLES += [state_of(12, seed) for seed in range(5, 25, 2)]
EXAMPLE = State([2, 4, 3, 1], [3, 1, 2, 4], [1, 4, 3, 2])


def settled_by_swaps(state):
    """The settled state, by homeward swaps in an order that is not that of settle."""
    choices = swaps_home(state)
    while choices:
        state = swapped(state, choices[-1])
        choices = swaps_home(state)
    return state


HOMES = [(state, settled_by_swaps(state)) for state in SAMPLES]


class WordRelationTest(DriftCase):
    def test_the_words_at_pinned_pairs(self):
        for state in SAMPLES:
            pinned = pinned_pairs(state)
            for replica in range(3):
                words = [(x, y) if state.says(replica, x, y) else (y, x) for x, y in pinned]
                relation = word_relation(state, replica)
                self.assertIs(type(relation), Relation)
                self.assertEqual(relation, Relation(state.all_keys(), words))
                self.assertTrue(relation.keeps(state.list_of(replica)))
                for x, y in permutations(state.all_keys(), 2):
                    # Only a pair that was given has a path without a key between.
                    self.assertIs(relation.path(x, y) == [x, y], (x, y) in words)

    def test_all_keys_are_there_without_pinned_pairs(self):
        for state in (EMPTY, SINGLE, State.same([3, 1, 2]), State([1, 2, 3], [2, 1, 3], [1, 3, 2])):
            for replica in range(3):
                relation = word_relation(state, replica)
                self.assertEqual((relation.all_keys(), relation.closed()), (state.all_keys(), []))

    def test_the_three_keys_of_a_cycle(self):
        self.assertEqual(word_relation(CIRCLE, 0).closed(), [(1, 2), (1, 3), (2, 3)])
        self.assertEqual(word_relation(CIRCLE, 1).closed(), [(2, 1), (2, 3), (3, 1)])
        self.assertEqual(word_relation(CIRCLE, 2).closed(), [(1, 2), (3, 1), (3, 2)])


class ClosedHomeTest(DriftCase):
    def test_against_the_settled_state_by_swaps(self):
        unsettled = 0
        for state, home in HOMES:
            lists = state.lists()
            self.assertEqual(closed_home(state), home)
            self.assertEqual(closed_home(state), settle(state))
            self.assertEqual(closed_home(home), home)
            self.assertEqual(state.lists(), lists)
            unsettled += state != home and pinned_pairs(state) != []
        self.assertGreater(unsettled, 50)

    def test_it_is_a_state(self):
        for state in (EMPTY, SINGLE, CIRCLE, EXAMPLE):
            self.assertIs(type(closed_home(state)), State)
            self.assertEqual(closed_home(state), state)

    def test_without_cycles_all_replicas_get_the_list_that_is_read(self):
        order = shuffled(range(12), 5)
        self.assertEqual(closed_home(State(order[::-1], order, order)), State.same(order))
        self.assertEqual(closed_home(State([2, 1, 3], [1, 2, 3], [1, 3, 2])), State.same([1, 2, 3]))


class ForcedTest(DriftCase):
    def test_against_the_settled_lists(self):
        many = 0
        for state, home in HOMES:
            free = [pair for pair in read_pairs(state) if pair not in pinned_pairs(state)]
            for replica in range(3):
                found = forced_dissents(state, replica)
                wanted = [pair for pair in free if dissenters(home, *pair) == [replica]]
                self.assertEqual([(x, y) for x, y, _ in found], wanted)
                many += len(wanted)
        self.assertGreater(many, 40)

    def test_the_replica_dissents_there_already(self):
        for state in SAMPLES:
            for replica in range(3):
                for x, y, _ in forced_dissents(state, replica):
                    self.assertEqual(dissenters(state, x, y), [replica])

    def test_each_chain(self):
        chains = 0
        for state in SAMPLES:
            pinned = pinned_pairs(state)
            for replica in range(3):
                for x, y, chain in forced_dissents(state, replica):
                    self.assertEqual((chain[0], chain[-1]), (y, x))
                    for first, second in zip(chain, chain[1:]):
                        self.assertTrue((first, second) in pinned or (second, first) in pinned)
                        self.assertTrue(state.says(replica, first, second))
                    self.assertEqual(chain, word_relation(state, replica).path(y, x))
                    chains += 1
        self.assertGreater(chains, 40)

    def test_of_several_chains_the_least(self):
        self.assertEqual(forced_dissents(EXAMPLE, 0), [(1, 2, [2, 3, 1])])
        self.assertEqual([forced_dissents(EXAMPLE, 1), forced_dissents(EXAMPLE, 2)], [[], []])
        kinds = [type(forced_dissents(EXAMPLE, 0)), type(forced_dissents(EXAMPLE, 0)[0])]
        self.assertEqual(kinds + [type(forced_dissents(EXAMPLE, 0)[0][2])], [list, tuple, list])

    def test_without_cycles_nothing_is_forced(self):
        for state in (EMPTY, SINGLE, State([3, 2, 1], [1, 2, 3], [1, 2, 3])):
            self.assertEqual([forced_dissents(state, replica) for replica in range(3)], [[], [], []])


class VoluntaryTest(DriftCase):
    def test_against_the_settled_lists(self):
        for state, home in HOMES:
            for replica in range(3):
                wanted = [
                    pair for pair in read_pairs(state)
                    if dissenters(state, *pair) == [replica] and dissenters(home, *pair) != [replica]
                ]
                self.assertEqual(voluntary_dissents(state, replica), wanted)

    def test_as_many_as_homeward_swaps(self):
        lengths = set()
        for state in SAMPLES:
            for replica in range(3):
                many = len(voluntary_dissents(state, replica))
                self.assertEqual(many, settle_length(state, replicas=(replica,)))
                lengths.add(many)
        self.assertTrue({0, 1, 2, 3, 4} <= lengths)

    def test_every_dissent_is_pinned_forced_or_voluntary(self):
        for state in SAMPLES:
            pinned = pinned_pairs(state)
            for replica in range(3):
                forced = [(x, y) for x, y, _ in forced_dissents(state, replica)]
                voluntary = voluntary_dissents(state, replica)
                others = [pair for pair in pinned if dissenters(state, *pair) == [replica]]
                wanted = [pair for pair in read_pairs(state) if dissenters(state, *pair) == [replica]]
                self.assertEqual(sorted(forced + voluntary + others), wanted)

    def test_without_cycles_all_dissents_are_voluntary(self):
        state = State([3, 2, 1], [1, 2, 3], [1, 2, 3])
        self.assertEqual(voluntary_dissents(state, 0), [(1, 2), (1, 3), (2, 3)])
        self.assertEqual([voluntary_dissents(state, 1), voluntary_dissents(state, 2)], [[], []])
        for state in (EMPTY, SINGLE, CIRCLE, EXAMPLE):
            self.assertEqual([voluntary_dissents(state, replica) for replica in range(3)], [[], [], []])


class UnknownReplicaTest(DriftCase):
    def test_wrong_replicas(self):
        for state in (EMPTY, SINGLE, CIRCLE, TRIPLES[3], TWELVES[0]):
            for replica in WRONG_REPLICAS:
                for action in (word_relation, forced_dissents, voluntary_dissents):
                    self.assert_raises(UnknownReplica, {"replica": replica}, action, state, replica)


if __name__ == "__main__":
    unittest.main()
