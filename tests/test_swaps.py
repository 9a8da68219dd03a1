"""Point 11: single swaps."""

import unittest

from quorumdrift.dissents import dealing
from quorumdrift.errors import AudibleSwap, InvalidSwap
from quorumdrift.readings import read
from quorumdrift.states import State
from quorumdrift.swaps import apply_swap, barred_by, is_silent, silent_swaps, swap_pair
from tests.helpers import DriftCase
from tests.oracles import CIRCLE, EMPTY, FIVES, FOURS, PAIRS, SINGLE, STATES, TRIPLES, TWELVES
from tests.oracles import all_swaps, dissenters, keeps_reading, missing_swaps_of, swapped

SAMPLES = [EMPTY, SINGLE] + PAIRS + TRIPLES + FOURS[:20] + FIVES[:10] + TWELVES[:2]


class EverySwapTest(DriftCase):
    def test_the_pair_has_the_first_key_first(self):
        for state in SAMPLES:
            for replica, index in all_swaps(state):
                order = state.list_of(replica)
                self.assertEqual(swap_pair(state, (replica, index)), (order[index], order[index + 1]))
        self.assertEqual(swap_pair(CIRCLE, (1, 1)), (3, 1))
        self.assertIs(type(swap_pair(CIRCLE, (1, 1))), tuple)

    def test_silent_if_the_two_others_agree(self):
        for state in SAMPLES:
            for swap in all_swaps(state):
                x, y = swap_pair(state, swap)
                words = {state.says(other, x, y) for other in range(3) if other != swap[0]}
                self.assertIs(is_silent(state, swap), len(words) == 1)
                self.assertIs(is_silent(state, swap), keeps_reading(state, swap))

    def test_the_replica_that_bars_a_swap(self):
        barred = 0
        for state in SAMPLES:
            for swap in all_swaps(state):
                by = barred_by(state, swap)
                if keeps_reading(state, swap):
                    self.assertIsNone(by)
                else:
                    barred += 1
                    self.assertEqual([by], dissenters(state, *swap_pair(state, swap)))
                    self.assertNotEqual(by, swap[0])
        self.assertGreater(barred, 100)

    def test_the_state_after_a_silent_swap(self):
        for state in SAMPLES:
            lists = state.lists()
            for swap in all_swaps(state):
                if keeps_reading(state, swap):
                    after = apply_swap(state, swap)
                    self.assertEqual(after.lists(), swapped(state, swap).lists())
                    self.assertEqual(read(after), read(state))
                    self.assertEqual(dealing(after), dealing(state))
                    self.assertEqual(apply_swap(after, swap), state)
            self.assertEqual(state.lists(), lists)

    def test_audible_swaps_are_refused(self):
        audible = 0
        for state in SAMPLES:
            for swap in all_swaps(state):
                if not keeps_reading(state, swap):
                    audible += 1
                    self.assertNotEqual(read(swapped(state, swap)), read(state))
                    self.assert_raises(AudibleSwap, {"step": 0}, apply_swap, state, swap)
        self.assertGreater(audible, 100)

    def test_all_silent_swaps_ascending(self):
        for state in STATES:
            found = silent_swaps(state)
            self.assertEqual(found, [swap for swap in all_swaps(state) if keeps_reading(state, swap)])
            self.assertEqual(found, sorted(found))

    def test_states_with_all_and_with_no_silent_swaps(self):
        for state in (State.same([1, 2, 3, 4]), State([4, 3, 2, 1], [1, 2, 3, 4], [1, 2, 3, 4])):
            silent = [(0, 0), (0, 1), (0, 2)]
            self.assertEqual(silent_swaps(state)[:3], silent)
        self.assertEqual(silent_swaps(State.same([1, 2])), [(0, 0), (1, 0), (2, 0)])
        self.assertEqual(silent_swaps(CIRCLE), [])
        self.assertEqual([silent_swaps(EMPTY), silent_swaps(SINGLE)], [[], []])


class MissingSwapTest(DriftCase):
    def test_swaps_that_do_not_exist(self):
        for state in [EMPTY, SINGLE, PAIRS[3], CIRCLE, FOURS[0], TWELVES[0]]:
            for swap in missing_swaps_of(state):
                for action in (swap_pair, is_silent, barred_by, apply_swap):
                    with self.subTest(state=str(state), swap=swap, action=action.__name__):
                        self.assert_raises(InvalidSwap, {"step": 0}, action, state, swap)

    def test_the_last_index_exists_and_the_next_one_does_not(self):
        state = State.same([1, 2, 3])
        self.assertEqual(apply_swap(state, (2, 1)), State([1, 2, 3], [1, 2, 3], [1, 3, 2]))
        self.assert_raises(InvalidSwap, {"step": 0}, apply_swap, state, (2, 2))
        self.assert_raises(InvalidSwap, {"step": 0}, apply_swap, state, (3, 1))
        self.assert_raises(InvalidSwap, {"step": 0}, apply_swap, state, (-1, -1))


if __name__ == "__main__":
    unittest.main()
