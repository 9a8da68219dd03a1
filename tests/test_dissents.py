"""Point 10: dissenters and dealings."""

import unittest
from itertools import product

from quorumdrift.dissents import dealing, dissenter, dissents
from quorumdrift.errors import UnknownKey, UnknownReplica
from quorumdrift.readings import read
from quorumdrift.states import State
from tests.helpers import DriftCase, shuffled
from tests.oracles import CIRCLE, EMPTY, PAIRS, SINGLE, STATES, TRIPLES, WRONG_REPLICAS
from tests.oracles import circles, dissenters, pinned_pairs, read_pairs


class DissenterTest(DriftCase):
    def test_against_a_majority(self):
        for state in STATES:
            for x, y in product(state.all_keys(), repeat=2):
                found = dissenters(state, x, y)
                self.assertEqual(dissenter(state, x, y), found[0] if found else None)

    def test_whichever_key_is_named_first(self):
        state = State([1, 2, 3], [2, 1, 3], [1, 3, 2])
        self.assertEqual([dissenter(state, 1, 2), dissenter(state, 2, 1)], [1, 1])
        self.assertEqual([dissenter(state, 2, 3), dissenter(state, 3, 2)], [2, 2])
        self.assertEqual([dissenter(state, 1, 3), dissenter(state, 3, 1)], [None, None])
        self.assertEqual(dissenter(State([2, 1], [1, 2], [1, 2]), 1, 2), 0)

    def test_equal_keys(self):
        for state in STATES:
            for key in state.all_keys():
                self.assertIsNone(dissenter(state, key, key))

    def test_unknown_keys(self):
        for state in (CIRCLE, SINGLE, EMPTY):
            for x, y in ((8, 7), (8, 8), (-1, 8)):
                self.assert_raises(UnknownKey, {"key": x}, dissenter, state, x, y)
        self.assert_raises(UnknownKey, {"key": 8}, dissenter, CIRCLE, 8, 1)
        self.assert_raises(UnknownKey, {"key": 8}, dissenter, CIRCLE, 1, 8)
        self.assert_raises(UnknownKey, {"key": 8}, dissenter, State.same([1]), 1, 8)


class DissentsTest(DriftCase):
    def test_against_a_majority(self):
        for state in STATES:
            for replica in range(3):
                wanted = [pair for pair in read_pairs(state) if dissenters(state, *pair) == [replica]]
                self.assertEqual(dissents(state, replica), wanted)

    def test_without_any_dissent(self):
        for state in (EMPTY, SINGLE, State.same([3, 1, 2]), State.same(shuffled(range(12), 1))):
            self.assertEqual([dissents(state, replica) for replica in range(3)], [[], [], []])

    def test_ascending_by_the_key_read_first(self):
        state = State([1, 2, 3, 4], [4, 3, 2, 1], [4, 3, 2, 1])
        self.assertEqual(dissents(state, 0), [(2, 1), (3, 1), (3, 2), (4, 1), (4, 2), (4, 3)])
        self.assertEqual([dissents(state, 1), dissents(state, 2)], [[], []])

    def test_unknown_replicas(self):
        for replica in WRONG_REPLICAS:
            for state in (CIRCLE, SINGLE, EMPTY):
                self.assert_raises(UnknownReplica, {"replica": replica}, dissents, state, replica)


class DealingTest(DriftCase):
    def test_against_all_circles(self):
        for state in STATES:
            wanted = [(x, y, dissenters(state, x, y)[0]) for x, y in pinned_pairs(state)]
            self.assertEqual(dealing(state), wanted)

    def test_states_without_cycles(self):
        for state in (EMPTY, SINGLE, State.same([4, 1, 3, 2]), State([1, 2, 3], [2, 1, 3], [1, 3, 2])):
            self.assertEqual(dealing(state), [])
        for state in PAIRS:
            self.assertEqual(dealing(state), [])

    def test_each_replica_dissents_once_in_a_cycle(self):
        with_cycles = [state for state in STATES if circles(state)]
        self.assertGreater(len(with_cycles), 20)
        self.assertLess(len(with_cycles), len(STATES) - 20)
        for state in with_cycles:
            dealt = {(x, y): replica for x, y, replica in dealing(state)}
            for x, y, z in read(state).cycles():
                self.assertEqual(sorted([dealt[x, y], dealt[y, z], dealt[z, x]]), [0, 1, 2])

    def test_every_dealing_of_a_cycle_occurs(self):
        dealings = {tuple(dealing(state)) for state in TRIPLES}
        # Two directions of the cycle, each dealt in six ways, and no cycle.
        self.assertEqual(len(dealings), 13)

    def test_kinds_of_values(self):
        entries = dealing(CIRCLE)
        self.assertEqual(entries, [(1, 2, 1), (2, 3, 2), (3, 1, 0)])
        self.assertIs(type(entries), list)
        self.assertEqual({type(entry) for entry in entries + dissents(CIRCLE, 0)}, {tuple})


if __name__ == "__main__":
    unittest.main()
