"""Points 14 and 15: moves of blocks, and rewrites of whole lists."""

import unittest
from itertools import permutations, product

from quorumdrift.errors import AudibleSwap, InvalidList, InvalidMove, UnknownReplica, UnlikeKeys
from quorumdrift.lists import straight_swaps
from quorumdrift.moves import apply_move, can_move, can_rewrite, expand_move, expand_rewrite, rewrite
from quorumdrift.runs import Run, play
from quorumdrift.states import State
from tests.helpers import DriftCase, shuffled
from tests.oracles import CIRCLE, EMPTY, FIVES, FOURS, PAIRS, SINGLE, TRIPLES, TWELVES, WRONG_REPLICAS
from tests.oracles import keeps_reading, read_pairs, swapped
from tests.test_lists import WRONG_LISTS

SAMPLES = [EMPTY, SINGLE] + PAIRS + TRIPLES[::5] + FOURS[:12] + FIVES[:6]
TWELVE_MOVES = [(0, 0, 1, 12), (1, 0, 11, 12), (2, 3, 7, 11), (0, 0, 6, 12), (1, 5, 6, 7), (2, 2, 4, 5)]


def all_moves(state):
    """The moves that there are."""
    bounds = product(range(3), *[range(len(state) + 1)] * 3)
    return [move for move in bounds if move[1] < move[2] < move[3]]


def moved(state, move):
    """The state after the move, by cutting and joining lists."""
    replica, start, middle, end = move
    lists = state.lists()
    order = lists[replica]
    lists[replica] = order[:start] + order[middle:end] + order[start:middle] + order[end:]
    return State(*lists)


def first_audible(state, swaps):
    """The step of the first swap that changes the reading, or None."""
    now = state
    for step, swap in enumerate(swaps):
        if not keeps_reading(now, swap):
            return step
        now = swapped(now, swap)
    return None


class MoveTest(DriftCase):
    def test_against_cutting_and_joining(self):
        silent = audible = 0
        for state in SAMPLES + TWELVES[1:]:
            moves = all_moves(state) if len(state) < 12 else TWELVE_MOVES
            for move in moves:
                goal = moved(state, move)
                if read_pairs(goal) == read_pairs(state):
                    silent += 1
                    self.assertIs(can_move(state, move), True)
                    self.assertEqual(apply_move(state, move), goal)
                    self.assertEqual(play(state, expand_move(state, move)), goal)
                else:
                    audible += 1
                    self.assertIs(can_move(state, move), False)
                    self.assertRaises(AudibleSwap, apply_move, state, move)
                    self.assertRaises(AudibleSwap, expand_move, state, move)
        self.assertGreater(silent, 100)
        self.assertGreater(audible, 100)

    def test_every_block_of_equal_lists(self):
        for size in range(7):
            state = State.same(shuffled(range(size), size))
            for move in all_moves(state):
                replica, start, middle, end = move
                run = expand_move(state, move)
                self.assertIs(type(run), Run)
                self.assertEqual(len(run), (middle - start) * (end - middle))
                self.assertEqual(run.only(replica), run)
                self.assertEqual(apply_move(state, move), moved(state, move))
                self.assertIs(can_move(state, move), True)

    def test_the_order_of_the_swaps(self):
        state = State.same([1, 2, 3, 4, 5, 6])
        self.assertEqual(str(expand_move(state, (0, 0, 1, 2))), "0.0")
        self.assertEqual(str(expand_move(state, (1, 0, 1, 4))), "1.0 1.1 1.2")
        self.assertEqual(str(expand_move(state, (2, 1, 4, 5))), "2.3 2.2 2.1")
        self.assertEqual(str(expand_move(state, (1, 0, 2, 4))), "1.1 1.0 1.2 1.1")
        self.assertEqual(str(expand_move(state, (0, 1, 4, 6))), "0.3 0.2 0.1 0.4 0.3 0.2")
        self.assertEqual(str(expand_move(state, (0, 3, 4, 6))), "0.3 0.4")

    def test_each_key_of_the_second_block_passes_the_first_one(self):
        for state in (State.same([1, 2, 3, 4, 5]), State.same(list(range(12)))):
            for replica, start, middle, end in all_moves(state)[::7]:
                order = state.list_of(replica)
                # Each key passes, in turn, the keys of the first block from the last to the first.
                wanted = [(x, y) for y in order[middle:end] for x in reversed(order[start:middle])]
                found = []
                now = state
                for swap in expand_move(state, (replica, start, middle, end)).steps():
                    found.append(tuple(now.list_of(replica)[swap[1]:swap[1] + 2]))
                    now = swapped(now, swap)
                self.assertEqual(found, wanted)

    def test_the_first_audible_step(self):
        # The two others disagree about 1 and 3 and about 1 and 2, but not about 2 and 3.
        state = State([1, 3, 2, 4], [3, 2, 1, 4], [1, 3, 2, 4])
        self.assert_raises(AudibleSwap, {"step": 1}, expand_move, state, (0, 0, 2, 3))
        self.assert_raises(AudibleSwap, {"step": 1}, apply_move, state, (0, 0, 2, 3))
        self.assert_raises(AudibleSwap, {"step": 0}, expand_move, state, (0, 0, 1, 2))
        self.assertIs(can_move(state, (0, 0, 2, 3)), False)
        self.assertEqual(expand_move(state, (0, 1, 2, 3)), Run.of((0, 1)))

    def test_the_first_audible_step_of_every_move(self):
        steps = set()
        for state in SAMPLES:
            for move in all_moves(state):
                run = expand_move(State.same(state.list_of(move[0])), move)
                step = first_audible(state, run.steps())
                if step is None:
                    self.assertEqual(expand_move(state, move), run)
                else:
                    steps.add(step)
                    for action in (expand_move, apply_move):
                        self.assert_raises(AudibleSwap, {"step": step}, action, state, move)
        self.assertEqual(steps, {0, 1, 2, 3})


class InvalidMoveTest(DriftCase):
    def check(self, state, move):
        for action in (expand_move, apply_move, can_move):
            with self.subTest(state=str(state), move=move, action=action.__name__):
                self.assert_raises(InvalidMove, {}, action, state, move)

    def test_each_bound_broken_alone(self):
        for state in (CIRCLE, State.same([1, 2, 3])):
            for move in ((-1, 0, 1, 2), (3, 0, 1, 2), (0, -1, 1, 2), (0, 1, 1, 2), (0, 0, 2, 2), (0, 0, 1, 4)):
                self.check(state, move)
            for move in ((0, 2, 1, 3), (0, 0, 3, 2), (0, 0, 0, 0), (0, 3, 3, 3), (0, 2, 3, 4), (0, -2, -1, 2)):
                self.check(state, move)
            for replica in WRONG_REPLICAS:
                self.check(state, (replica, 0, 1, 2))

    def test_all_bounds_near_a_list(self):
        for state in (EMPTY, SINGLE, PAIRS[0], TRIPLES[7]):
            moves = all_moves(state)
            for move in product(range(-1, 4), *[range(-2, len(state) + 3)] * 3):
                if move not in moves:
                    self.check(state, move)

    def test_invalid_comes_before_audible(self):
        self.assert_raises(AudibleSwap, {"step": 0}, expand_move, CIRCLE, (0, 0, 1, 3))
        self.assert_raises(InvalidMove, {}, expand_move, CIRCLE, (0, 0, 1, 4))


class RewriteTest(DriftCase):
    def test_all_lists(self):
        silent = audible = 0
        for state in SAMPLES[:-6]:
            for replica in range(3):
                for order in map(list, permutations(state.all_keys())):
                    lists = state.lists()
                    lists[replica] = order
                    goal = State(*lists)
                    steps = [(replica, index) for index in straight_swaps(state.list_of(replica), order)]
                    wrong = first_audible(state, steps)
                    self.assertIs(wrong is None, read_pairs(goal) == read_pairs(state))
                    self.assertIs(can_rewrite(state, replica, order), wrong is None)
                    if wrong is None:
                        silent += 1
                        self.assertEqual(expand_rewrite(state, replica, order), Run(steps))
                        self.assertEqual(rewrite(state, replica, order), goal)
                    else:
                        audible += 1
                        for action in (expand_rewrite, rewrite):
                            self.assert_raises(AudibleSwap, {"step": wrong}, action, state, replica, order)
        self.assertGreater(silent, 100)
        self.assertGreater(audible, 100)

    def test_the_first_audible_step(self):
        # The two others disagree about 3 and 4, the first two keys that replica 0 would exchange.
        state = State([1, 2, 3, 4], [4, 1, 2, 3], [1, 2, 3, 4])
        self.assert_raises(AudibleSwap, {"step": 0}, rewrite, state, 0, [4, 1, 2, 3])
        self.assertEqual(rewrite(state, 1, [1, 2, 3, 4]), State.same([1, 2, 3, 4]))
        # Here they agree about 1 and 4, but not about 2 and 4.
        state = State([1, 2, 3, 4], [1, 4, 2, 3], [4, 1, 2, 3])
        self.assertEqual(str(expand_rewrite(state, 2, [1, 4, 2, 3])), "2.0")
        self.assert_raises(AudibleSwap, {"step": 1}, expand_rewrite, state, 2, [1, 2, 4, 3])

    def test_the_same_list(self):
        for state in SAMPLES:
            for replica in range(3):
                order = state.list_of(replica)
                self.assertEqual(expand_rewrite(state, replica, order), Run([]))
                self.assertEqual(rewrite(state, replica, order), state)
                self.assertIs(can_rewrite(state, replica, order), True)

    def test_equal_lists_may_be_rewritten_at_will(self):
        for size in (0, 1, 5, 12):
            state = State.same(shuffled(range(size), 1))
            order = shuffled(range(size), 2)
            after = rewrite(state, 1, order)
            self.assertEqual(after.lists(), [state.list_of(0), order, state.list_of(0)])
            self.assertEqual(rewrite(after, 1, state.list_of(0)), state)

    def test_which_error_comes_first(self):
        state = State([1, 2], [2, 1], [1, 2])
        for action in (expand_rewrite, rewrite, can_rewrite):
            for replica in WRONG_REPLICAS:
                for order in ([2, 1], [1, 2, 2], [1, 3]):
                    self.assert_raises(UnknownReplica, {"replica": replica}, action, state, replica, order)
            for replica in range(3):
                self.assert_raises(InvalidList, {"place": 2}, action, state, replica, [1, 2, 2])
                self.assert_raises(InvalidList, {"place": 1}, action, state, replica, [7, -1])
                self.assert_raises(UnlikeKeys, {"key": 2}, action, state, replica, [1])
                self.assert_raises(UnlikeKeys, {"key": 2}, action, state, replica, [3, 1])
                self.assert_raises(UnlikeKeys, {"key": 0}, action, state, replica, [2, 1, 0])
                self.assert_raises(UnlikeKeys, {"key": 1}, action, state, replica, [])
                for order, place in WRONG_LISTS:
                    self.assert_raises(InvalidList, {"place": place}, action, state, replica, order)
        # A swap of the two keys in replica 0 would be audible.
        self.assert_raises(UnlikeKeys, {"key": 3}, rewrite, state, 0, [2, 1, 3])
        self.assert_raises(AudibleSwap, {"step": 0}, rewrite, state, 0, [2, 1])


if __name__ == "__main__":
    unittest.main()
