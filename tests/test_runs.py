"""Points 12 and 13: runs, and what they do to a state."""

import unittest
from itertools import islice, product

from quorumdrift.errors import AudibleSwap, InvalidLine, InvalidSwap, UnknownReplica
from quorumdrift.runs import Run, each_state, first_fault, play, swapped_pairs
from quorumdrift.states import State
from tests.helpers import DriftCase, some_pairs, within_steps
from tests.oracles import CIRCLE, EMPTY, SINGLE, STATES, WRONG_REPLICAS
from tests.oracles import all_swaps, keeps_reading, missing_swaps_of, swapped

RUNS = [[], [(0, 0)], [(2, 10), (0, 3), (2, 10)], [(9999, 9999), (0, 0), (3, 1)], [(1, 0), (0, 1), (2, 2), (0, 1)]]
RUNS += [some_pairs(range(4), many, many) for many in range(12)]

# Each is nearly the text of a run.
WRONG_TEXTS = [
    " ", "  ", ".", "0", "0.", ".0", "0 0", "0. 0", "0 .0", "0 . 0", "0,0", "0:0", "0-0", "00", "0..0", "0.0.", ".0.0",
    "0.0.0", "0.0.0 1.1", "01.0", "0.01", "00.0", "0.00", "0.0 1.01", "0.0 01.1", "-0.0", "0.-0", "-1.0", "0.-1",
    "+0.0", "0.+1", " 0.0", "0.0 ", "0.0  1.1", " 0.0 1.1", "0.0 1.1 ", "0.0 1", "0.0 1.", "0.0 .1", "0.0 .", "0.0 1 1",
    "0.0\n", "\n0.0", "0.0\n1.1", "0.0 \n1.1", "0.0\t1.1", "0.\n0", "\n", "0.0\r1.1", "0.0\u00a01.1", "0.0,1.1",
    "10000.0", "0.10000", "0.00001", "99999.99999", "0." + "9" * 5000, "1_0.0", "0.1_0", "0x1.0", "1e1.0",
    "a.0", "0.a", "a", "\u0661.0", "0.\u00b2", "\uff10.0", "(0, 0)", "0.0;1.1", "None", "0.None",
]


def random_run(state, seed, many=12):
    """Swaps of the state without a fault, and the states before each of them and at the end."""
    swaps, states = [], [state]
    for step in range(many):
        silent = [swap for swap in all_swaps(states[-1]) if keeps_reading(states[-1], swap)]
        if silent:
            swaps.append(silent[(seed + step * 7) % len(silent)])
            states.append(swapped(states[-1], swaps[-1]))
    return swaps, states


WALKS = [(state, *random_run(state, seed)) for seed, state in enumerate(STATES[::6])]


class RunTest(DriftCase):
    def test_steps(self):
        for swaps in RUNS:
            self.assertEqual(Run(swaps).steps(), swaps)
            self.assertEqual(Run.of(*swaps).steps(), swaps)
            self.assertIs(type(Run.of(*swaps).steps()), list)
            self.assertIs(type(Run.of(*swaps)), Run)
        self.assertEqual(Run.of().steps(), [])
        self.assertEqual(Run.of((1, 2), (0, 0)).steps(), [(1, 2), (0, 0)])

    def test_swaps_are_not_checked(self):
        swaps = [(-1, -1), (3, 0), (0, 10000), (99999, -5)]
        self.assertEqual(Run(swaps).steps(), swaps)
        self.assertEqual(Run(swaps).shares(), (1, 0, 0))
        self.assertEqual((-Run(swaps)).steps(), swaps[::-1])

    def test_shares(self):
        for swaps in RUNS:
            wanted = tuple(sum(swap[0] == replica for swap in swaps) for replica in range(3))
            self.assertEqual(Run(swaps).shares(), wanted)
        self.assertEqual(Run([]).shares(), (0, 0, 0))
        self.assertEqual(Run([(2, 0), (0, 5), (2, 1), (7, 0), (-1, 0)]).shares(), (1, 0, 2))
        self.assertIs(type(Run([]).shares()), tuple)

    def test_only(self):
        for swaps, replica in product(RUNS, range(3)):
            only = Run(swaps).only(replica)
            self.assertIs(type(only), Run)
            self.assertEqual(only.steps(), [swap for swap in swaps if swap[0] == replica])

    def test_only_of_unknown_replicas(self):
        for replica in WRONG_REPLICAS:
            for run in (Run([]), Run([(0, 0)]), Run([(replica, 0)])):
                self.assert_raises(UnknownReplica, {"replica": replica}, run.only, replica)


class TextTest(DriftCase):
    def test_texts(self):
        self.assertEqual(str(Run([])), "")
        self.assertEqual(str(Run([(0, 0)])), "0.0")
        self.assertEqual(str(Run([(2, 10), (0, 3)])), "2.10 0.3")
        self.assertEqual(str(Run([(9999, 9999), (3, 0)])), "9999.9999 3.0")

    def test_forth_and_back(self):
        for swaps in RUNS:
            text = " ".join(str(replica) + "." + str(index) for replica, index in swaps)
            self.assertEqual(str(Run(swaps)), text)
            self.assertEqual(Run.read(text).steps(), swaps)
            self.assertIs(type(Run.read(text)), Run)

    def test_numbers_up_to_9999_whatever_they_name(self):
        self.assertEqual(Run.read("").steps(), [])
        self.assertEqual(Run.read("0.0").steps(), [(0, 0)])
        self.assertEqual(Run.read("3.9999 9999.0 10.1000").steps(), [(3, 9999), (9999, 0), (10, 1000)])

    def test_what_is_no_text_of_a_run(self):
        for text in WRONG_TEXTS:
            with self.subTest(text=text[:80]):
                self.assert_raises(InvalidLine, {"line": 1}, Run.read, text)

    def test_no_other_sign_may_stand_anywhere(self):
        text = "0.12 2.0"
        for place in range(len(text) + 1):
            for sign in " \n\t+-./,_a":
                wrong = text[:place] + sign + text[place:]
                with self.subTest(text=wrong):
                    self.assert_raises(InvalidLine, {"line": 1}, Run.read, wrong)


class OperatorTest(DriftCase):
    def test_equal_swaps(self):
        for place, swaps in enumerate(RUNS):
            for other_place, others in enumerate(RUNS):
                self.assertIs(Run(swaps) == Run(others), swaps == others)
                self.assertIs(Run(swaps) != Run(others), swaps != others)
        self.assertIs(Run([(0, 0), (1, 1)]) == Run([(1, 1), (0, 0)]), False)
        for other in ([], "", None, 0, EMPTY):
            self.assertIs(Run([]) == other, False)

    def test_length_sum_and_opposite(self):
        for swaps, others in product(RUNS, repeat=2):
            first, second = Run(swaps), Run(others)
            self.assertEqual((first + second).steps(), swaps + others)
            self.assertEqual(len(first + second), len(swaps) + len(others))
            self.assertEqual((-first).steps(), swaps[::-1])
            self.assertEqual((first.steps(), second.steps()), (swaps, others))
            for result in (first + second, -first):
                self.assertIs(type(result), Run)

    def test_times(self):
        for swaps in RUNS:
            for count in (-1000, -2, -1, 0):
                self.assertEqual(Run(swaps) * count, Run([]))
            for count in (1, 2, 3, 1000):
                result = Run(swaps) * count
                self.assertEqual(result.steps(), swaps * count)
                self.assertEqual(len(result), len(swaps) * count)
                self.assertIs(type(result), Run)
            self.assertEqual(Run(swaps).steps(), swaps)


class PlayTest(DriftCase):
    def test_runs_without_a_fault(self):
        self.assertGreater(sum(len(swaps) for _, swaps, _ in WALKS), 200)
        for state, swaps, states in WALKS:
            run = Run(swaps)
            lists = state.lists()
            self.assertEqual(play(state, run), states[-1])
            self.assertIsNone(first_fault(state, run))
            self.assertEqual(list(each_state(state, run)), states)
            self.assertEqual((state.lists(), run.steps()), (lists, swaps))

    def test_back_again(self):
        for state, swaps, _ in WALKS:
            self.assertEqual(play(play(state, Run(swaps)), -Run(swaps)), state)

    def test_the_empty_run(self):
        for state in (EMPTY, SINGLE, CIRCLE):
            self.assertEqual(play(state, Run([])), state)
            self.assertEqual(list(each_state(state, Run([]))), [state])
            self.assertEqual(swapped_pairs(state, Run([])), [])
            self.assertIsNone(first_fault(state, Run([])))

    def test_swapped_pairs(self):
        for state, swaps, states in WALKS:
            wanted = []
            for before, (replica, index) in zip(states, swaps):
                wanted.append((replica, *before.list_of(replica)[index:index + 2]))
            self.assertEqual(swapped_pairs(state, Run(swaps)), wanted)
        pairs = swapped_pairs(State.same([1, 2, 3]), Run.of((0, 0), (0, 1), (2, 1)))
        self.assertEqual(pairs, [(0, 1, 2), (0, 1, 3), (2, 2, 3)])
        self.assertEqual((type(pairs), type(pairs[0])), (list, tuple))


class FaultTest(DriftCase):
    def check_fault(self, state, swaps, states, step, wrong):
        """A wrong swap at this step of a run without a fault is its fault."""
        error, word = (AudibleSwap, "audible") if wrong in all_swaps(state) else (InvalidSwap, "invalid")
        # What comes behind the fault has no effect, be it wrong or not.
        run = Run(swaps[:step] + [wrong] + swaps[step:] + [(7, 7)])
        for action in (play, swapped_pairs):
            self.assert_raises(error, {"step": step}, action, state, run)
        self.assertEqual(first_fault(state, run), (step, word))
        self.assertIs(type(first_fault(state, run)), tuple)
        found = []
        iterator = each_state(state, run)
        with self.assertRaises(error) as caught:
            for now in iterator:
                found.append(now)
        self.assertEqual(vars(caught.exception), {"step": step})
        self.assertEqual(found, states[:step + 1])

    def test_invalid_swaps(self):
        for state, swaps, states in WALKS[::3]:
            for step in sorted({0, len(swaps) // 2, len(swaps)}):
                for wrong in missing_swaps_of(state)[::3]:
                    self.check_fault(state, swaps, states, step, wrong)

    def test_audible_swaps(self):
        many = 0
        for state, swaps, states in WALKS:
            for step in sorted({0, len(swaps) // 2, len(swaps)}):
                for wrong in all_swaps(state):
                    if not keeps_reading(states[step], wrong):
                        many += 1
                        self.check_fault(state, swaps, states, step, wrong)
        self.assertGreater(many, 100)

    def test_a_swap_is_judged_at_its_turn(self):
        state = State([2, 1, 3], [1, 2, 3], [1, 3, 2])
        # Replica 0 bars 1.0 until it has turned back itself, and is then barred from turning again.
        self.assertEqual(first_fault(state, Run.of((1, 0))), (0, "audible"))
        self.assertIsNone(first_fault(state, Run.of((0, 0), (1, 0))))
        self.assertEqual(first_fault(state, Run.of((0, 0), (1, 0), (0, 0))), (2, "audible"))
        self.assertEqual(first_fault(state, Run.of((0, 0), (1, 2), (0, 9))), (1, "invalid"))
        self.assertEqual(first_fault(state, Run.of((1, 0), (1, 2))), (0, "audible"))

    def test_states_of_no_key_and_of_one_key(self):
        for state in (EMPTY, SINGLE):
            self.assert_raises(InvalidSwap, {"step": 0}, play, state, Run.of((0, 0)))
            self.assertEqual(first_fault(state, Run.of((2, -1))), (0, "invalid"))


class GeneratorTest(DriftCase):
    def test_the_first_states_of_a_long_run_come_at_once(self):
        state = State([2, 1, 3], [1, 2, 3], [1, 3, 2])
        run = Run.of((0, 0)) * 1000 * 1000
        found = within_steps(3000, lambda: list(islice(each_state(state, run), 3)))
        self.assertEqual(found, [state, swapped(state, (0, 0)), state])

    def test_states_before_the_error_come_first(self):
        state = State.same([1, 2])
        for wrong, error in (((1, 0), AudibleSwap), ((1, 1), InvalidSwap)):
            states = each_state(state, Run.of((0, 0), wrong, (0, 0)))
            self.assertEqual(next(states), state)
            self.assertEqual(next(states), State([2, 1], [1, 2], [1, 2]))
            self.assert_raises(error, {"step": 1}, next, states)
            self.assertIsNone(next(states, None))

    def test_nothing_is_raised_before_the_first_state(self):
        states = each_state(CIRCLE, Run.of((0, 0)))
        self.assertIs(iter(states), states)
        self.assertEqual(next(states), CIRCLE)
        self.assert_raises(AudibleSwap, {"step": 0}, next, states)

    def test_what_is_handed_in_and_out_can_be_changed(self):
        state = State.same([1, 2, 3])
        swaps = [(0, 0), (1, 1), (1, 1)]
        run = Run(swaps)
        states = each_state(state, run)
        found = [next(states)]
        swaps[1] = (9, 9)
        run.steps().clear()
        found[0].lists()[0].reverse()
        found.extend(states)
        self.assertEqual(found, list(each_state(state, Run([(0, 0), (1, 1), (1, 1)]))))


if __name__ == "__main__":
    unittest.main()
