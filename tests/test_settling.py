"""Point 16: homeward swaps and settled states."""

import unittest

from quorumdrift.dissents import dealing
from quorumdrift.errors import UnknownReplica
from quorumdrift.readings import read
from quorumdrift.runs import Run, first_fault, play
from quorumdrift.settling import homeward, is_settled, settle, settle_length, settle_run
from quorumdrift.states import State
from quorumdrift.swaps import silent_swaps
from tests.helpers import DriftCase, shuffled
from tests.oracles import CIRCLE, EMPTY, FIVES, FOURS, SINGLE, STATES, TRIPLES, TWELVES, WRONG_REPLICAS
from tests.oracles import farness, keeps_reading, subsets_of_replicas, swapped, swaps_home

SAMPLES = [EMPTY, SINGLE, CIRCLE] + TRIPLES[::6] + FOURS[::3] + FIVES[::3] + TWELVES
PICKS = [(), (0,), (1,), (7, 0, 3), (10 ** 9, 12345), tuple(range(100)), [2, 2, 2], (1,) * 200, (10 ** 30 + 1,) * 70]


def picked_run(state, replicas, picks):
    """The run and its last state, by the document's words."""
    swaps = []
    while True:
        choices = [swap for swap in swaps_home(state) if swap[0] in replicas]
        if not choices:
            return swaps, state
        pick = picks[len(swaps)] if len(swaps) < len(picks) else 0
        swaps.append(choices[pick % len(choices)])
        state = swapped(state, swaps[-1])


class HomewardTest(DriftCase):
    def test_against_a_majority(self):
        for state in STATES:
            self.assertEqual(homeward(state), swaps_home(state))
            self.assertIs(is_settled(state), swaps_home(state) == [])

    def test_homeward_swaps_are_silent(self):
        for state in STATES:
            for swap in homeward(state):
                self.assertTrue(keeps_reading(state, swap))
                self.assertIn(swap, silent_swaps(state))

    def test_settled_and_unsettled_states(self):
        for state in (EMPTY, SINGLE, CIRCLE, State.same([2, 1, 3]), State([2, 4, 3, 1], [3, 1, 2, 4], [1, 4, 3, 2])):
            self.assertEqual((homeward(state), is_settled(state)), ([], True))
        state = State([2, 1, 3], [1, 2, 3], [1, 3, 2])
        self.assertEqual((homeward(state), is_settled(state)), ([(0, 0), (2, 1)], False))
        self.assertEqual(type(homeward(state)[0]), tuple)

    def test_a_state_whose_keys_are_all_dissenting(self):
        state = State([4, 3, 2, 1], [1, 2, 3, 4], [1, 2, 3, 4])
        self.assertEqual(homeward(state), [(0, 0), (0, 1), (0, 2)])


class SettleTest(DriftCase):
    def test_against_the_words(self):
        for state in SAMPLES:
            for replicas in subsets_of_replicas():
                swaps, end = picked_run(state, replicas, ())
                run = settle_run(state, replicas=replicas)
                self.assertIs(type(run), Run)
                self.assertEqual(run.steps(), swaps)
                self.assertEqual(settle(state, replicas=replicas), end)
                self.assertEqual(settle_length(state, replicas=replicas), len(swaps))

    def test_all_replicas_and_the_first_picks_if_none_are_named(self):
        for state in SAMPLES:
            swaps, end = picked_run(state, (0, 1, 2), ())
            self.assertEqual(settle_run(state).steps(), swaps)
            self.assertEqual((settle(state), settle_length(state)), (end, len(swaps)))
            self.assertTrue(is_settled(settle(state)))

    def test_any_picks_lead_to_the_same_state_by_equally_long_runs(self):
        for state in SAMPLES:
            for replicas in ((0, 1, 2), (0, 2), (1,), ()):
                for picks in PICKS:
                    run = settle_run(state, replicas=replicas, picks=picks)
                    self.assertEqual(run.steps(), picked_run(state, replicas, picks)[0])
                    self.assertEqual(play(state, run), settle(state, replicas=replicas))
                    self.assertEqual(len(run), settle_length(state, replicas=replicas))

    def test_picks_choose_by_their_remainder(self):
        state = State([2, 1, 3], [1, 2, 3], [1, 3, 2])
        self.assertEqual(str(settle_run(state)), "0.0 2.1")
        self.assertEqual(str(settle_run(state, picks=[1])), "2.1 0.0")
        self.assertEqual(str(settle_run(state, picks=(2, 1))), "0.0 2.1")
        self.assertEqual(str(settle_run(state, picks=(3, 5, 8))), "2.1 0.0")
        self.assertEqual(str(settle_run(state, picks=(1, 0), replicas=(0,))), "0.0")
        state = State([4, 3, 2, 1], [1, 2, 3, 4], [1, 2, 3, 4])
        self.assertEqual(str(settle_run(state)), "0.0 0.1 0.0 0.2 0.1 0.0")
        self.assertEqual(str(settle_run(state, picks=(2, 1))), "0.2 0.1 0.0 0.1 0.2 0.1")

    def test_twelve_keys(self):
        order = list(range(12))
        state = State(order[::-1], order, order)
        self.assertEqual(settle_length(state), 66)
        self.assertEqual(settle(state), State.same(order))
        self.assertEqual(settle_length(state, replicas=[1, 2]), 0)

    def test_the_reading_and_the_dealing_stay(self):
        for state in SAMPLES:
            home = settle(state)
            self.assertIsNone(first_fault(state, settle_run(state)))
            self.assertEqual((read(home), dealing(home)), (read(state), dealing(state)))

    def test_only_the_named_replicas_move(self):
        for state in SAMPLES:
            for replicas in subsets_of_replicas():
                end = settle(state, replicas=replicas)
                for replica in range(3):
                    if replica not in replicas:
                        self.assertEqual(end.list_of(replica), state.list_of(replica))
                    else:
                        self.assertEqual([swap for swap in homeward(end) if swap[0] == replica], [])

    def test_one_settled_state_and_no_shorter_run(self):
        lengths = set()
        for state in [CIRCLE] + TRIPLES[::30] + FOURS[::9]:
            for replicas in subsets_of_replicas():
                reached = farness(state, replicas)
                length = settle_length(state, replicas=replicas)
                self.assertEqual(reached[str(settle(state, replicas=replicas))], length)
                lengths.add(length)
                if replicas == (0, 1, 2):
                    homes = [text for text in reached if is_settled(State.read(text))]
                    self.assertEqual(homes, [str(settle(state))])
        self.assertTrue({0, 1, 2, 3} <= lengths)


class ReplicasTest(DriftCase):
    def test_lists_tuples_and_repeated_numbers(self):
        for state in FOURS[:10] + TWELVES[:1]:
            for replicas in ([2, 0], (0, 2), [0, 2, 0, 2, 2], (2, 2, 0)):
                self.assertEqual(settle_run(state, replicas=replicas), settle_run(state, replicas=(0, 2)))
                self.assertEqual(settle(state, replicas=replicas), settle(state, replicas=(0, 2)))
                self.assertEqual(settle_length(state, replicas=replicas), settle_length(state, replicas=(0, 2)))
            for replicas in ([], ()):
                self.assertEqual(settle_run(state, replicas=replicas), Run([]))
                self.assertEqual(settle(state, replicas=replicas), state)
                self.assertEqual(settle_length(state, replicas=replicas), 0)

    def test_the_first_wrong_number(self):
        for state in (EMPTY, CIRCLE, FOURS[1]):
            for action in (settle_run, settle, settle_length):
                for wrong in WRONG_REPLICAS:
                    for replicas in ((wrong,), [0, wrong, 77, -9], [2, 2, 1, wrong]):
                        self.assert_raises(UnknownReplica, {"replica": wrong}, action, state, replicas=replicas)

    def test_by_keyword_only(self):
        for action in (settle_run, settle, settle_length):
            self.assertRaises(TypeError, action, CIRCLE, (0, 1))
        self.assertRaises(TypeError, settle, CIRCLE, picks=())

    def test_arguments_stay_as_they_were(self):
        state = State(*[shuffled(range(6), seed) for seed in range(3)])
        lists = state.lists()
        replicas, picks = [2, 0, 2], [5, 1, 4]
        settle_run(state, replicas=replicas, picks=picks)
        settle(state, replicas=replicas)
        settle_length(state, replicas=replicas)
        self.assertEqual((replicas, picks, state.lists()), ([2, 0, 2], [5, 1, 4], lists))


if __name__ == "__main__":
    unittest.main()
