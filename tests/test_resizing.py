"""Point 38: other keys, other replicas."""

import unittest
from itertools import permutations, product

from quorumdrift.errors import AudibleSwap, InvalidState, InvalidSwap, OutOfRange, SharedKey, UnknownKey
from quorumdrift.forced import closed_home
from quorumdrift.reach import route
from quorumdrift.readings import read
from quorumdrift.resizing import cycles_with, insert_key, nest, parts, project_run, relabel, rotate
from quorumdrift.runs import Run, play
from quorumdrift.settling import settle
from quorumdrift.states import State
from tests.helpers import DriftCase, shuffled
from tests.oracles import CIRCLE, EMPTY, FIVES, FOURS, PAIRS, SINGLE, STATES, TRIPLES, TWELVES, all_swaps, circles
from tests.oracles import keeps_reading, missing_swaps_of, read_before, walked

SOME = [EMPTY, SINGLE, CIRCLE] + PAIRS[::3] + TRIPLES[::17] + FOURS[::7] + FIVES[::7] + TWELVES[:2]
WRONG_KEYS = (-1, 8, 77, 10000)


def projected(state, run, key):
    """The swaps that are left without the key, by the document's words."""
    lists = state.lists()
    found = []
    for replica, index in run.steps():
        order = lists[replica]
        if key not in order[index:index + 2]:
            found.append((replica, index - (order.index(key) < index)))
        order[index], order[index + 1] = order[index + 1], order[index]
    return found


def runs_at(state, seed):
    """Runs without faults at the state, as many of them to and fro."""
    goal = walked(state, 9, seed)
    return [Run([]), route(state, goal), route(state, goal) + route(goal, state), route(state, state)]


class ProjectRunTest(DriftCase):
    def test_runs_without_faults(self):
        left = 0
        for seed, state in enumerate(SOME):
            for run in runs_at(state, seed):
                for key in state.all_keys()[::1 + len(state) // 4]:
                    found = project_run(state, run, key)
                    self.assertIs(type(found), Run)
                    self.assertEqual(found.steps(), projected(state, run, key))
                    self.assertEqual(play(state - key, found), play(state, run) - key)
                    left += len(found)
        self.assertGreater(left, 500)

    def test_some_runs(self):
        state = State.same([1, 2, 3])
        run = Run.of((0, 0), (0, 1), (2, 1))
        self.assertEqual(project_run(state, run, 2).steps(), [(0, 0)])
        self.assertEqual(project_run(state, run, 1).steps(), [(2, 0)])
        self.assertEqual(project_run(state, run, 3).steps(), [(0, 0)])
        self.assertEqual(project_run(SINGLE, Run([]), 4).steps(), [])

    def test_unknown_keys_come_first(self):
        for state in SOME:
            for key in [key for key in WRONG_KEYS if key not in state.all_keys()]:
                for run in (Run([]), Run.of((0, 0)), Run.of((7, 0)), Run.of((0, -1), (0, 0))):
                    self.assert_raises(UnknownKey, {"key": key}, project_run, state, run, key)

    def test_runs_with_faults(self):
        audible = 0
        for seed, state in enumerate(SOME):
            run = runs_at(state, seed)[1]
            goal = play(state, run)
            for key in state.all_keys()[::3]:
                for swap in missing_swaps_of(goal)[::4]:
                    wrong = run + Run.of(swap, (0, 0))
                    self.assert_raises(InvalidSwap, {"step": len(run)}, project_run, state, wrong, key)
                for swap in [swap for swap in all_swaps(goal) if not keeps_reading(goal, swap)][::2]:
                    # Also a swap of the key itself, which would be left out.
                    wrong = run + Run.of(swap, (9, 0))
                    self.assert_raises(AudibleSwap, {"step": len(run)}, project_run, state, wrong, key)
                    audible += 1
        self.assertGreater(audible, 50)


class InsertKeyTest(DriftCase):
    def test_every_position(self):
        for state in (EMPTY, SINGLE, CIRCLE, PAIRS[2], FOURS[3]):
            for positions in product(range(len(state) + 1), repeat=3):
                found = insert_key(state, 8, positions)
                for replica, position in enumerate(positions):
                    order = state.list_of(replica)
                    self.assertEqual(found.list_of(replica), order[:position] + [8] + order[position:])
                self.assertEqual(found - 8, state)

    def test_up_to_twelve_keys(self):
        state = TWELVES[0] - TWELVES[0].all_keys()[3]
        for key in (8, 9998):
            self.assertEqual(insert_key(state, key, (0, 11, 5)).position(1, key), 11)
        for key in (8, 77, -1, 10000):
            self.assert_raises(InvalidState, {"replica": 0}, insert_key, TWELVES[0], key, (0, 12, 5))

    def test_keys_that_the_state_has(self):
        for state in SOME[1:]:
            for key in state.all_keys()[::2]:
                for positions in ((0, 0, 0), (-1, 0, 0), (0, 0, 99)):
                    self.assert_raises(SharedKey, {"key": key}, insert_key, state, key, positions)

    def test_positions_out_of_range(self):
        for state in SOME:
            limit = {"limit": len(state)}
            for wrong in (-1, -10000, len(state) + 1, 13, 10000):
                for positions in ((wrong, 0, 0), (0, wrong, 0), (0, 0, wrong), (wrong, wrong, wrong)):
                    # Ahead of a key that cannot be one, and of too many keys.
                    for key in (8, -1, 10000):
                        self.assert_raises(OutOfRange, limit, insert_key, state, key, positions)

    def test_wrong_keys(self):
        for state in SOME:
            for key in (-1, -10000, 10000, 20000):
                self.assert_raises(InvalidState, {"replica": 0}, insert_key, state, key, (0, len(state), 0))
        self.assertEqual(str(insert_key(EMPTY, 0, (0, 0, 0))), "0 / 0 / 0")
        self.assertEqual(str(insert_key(SINGLE, 9999, (0, 1, 0))), "9999 4 / 4 9999 / 9999 4")


class CyclesWithTest(DriftCase):
    def test_against_all_cycles(self):
        found = 0
        for state in STATES:
            around = sorted(triple for triple in circles(state) if triple[0] == min(triple))
            for key in state.all_keys():
                wanted = [triple for triple in around if key in triple]
                self.assertEqual(cycles_with(state, key), wanted)
                found += len(wanted)
        self.assertGreater(found, 100)

    def test_unknown_keys(self):
        for state in SOME:
            for key in [key for key in WRONG_KEYS if key not in state.all_keys()]:
                self.assert_raises(UnknownKey, {"key": key}, cycles_with, state, key)


class RelabelTest(DriftCase):
    def test_other_names(self):
        for seed, state in enumerate(SOME):
            keys = state.all_keys()
            for shift in (0, 1, 17):
                names = {key: (key + shift) * 7 % 9973 for key in shuffled(keys + [8, 77], seed)}
                if len({names[key] for key in keys}) == len(keys):
                    before = dict(names)
                    found = relabel(state, names)
                    self.assertEqual(found.lists(), [[names[key] for key in order] for order in state.lists()])
                    self.assertEqual(list(names.items()), list(before.items()))

    def test_keys_exchanged(self):
        self.assertEqual(str(relabel(CIRCLE, {1: 2, 2: 1, 3: 3})), "2 1 3 / 1 3 2 / 3 2 1")
        self.assertEqual(str(relabel(CIRCLE, {3: 9999, 2: 1, 1: 0})), "0 1 9999 / 1 9999 0 / 9999 0 1")
        self.assertEqual(relabel(EMPTY, {}), EMPTY)

    def test_further_entries_have_no_effect(self):
        names = {1: 5, 2: 6, 3: 7}
        for further in ({4: 5}, {9: 99999}, {0: -1}, {10: 6, 11: 7, 12: 7}):
            self.assertEqual(relabel(CIRCLE, {**names, **further}), relabel(CIRCLE, names))
            self.assertEqual(relabel(CIRCLE, {**further, **names}), relabel(CIRCLE, names))
            self.assertEqual(relabel(EMPTY, further), EMPTY)

    def test_names_that_lack_a_key(self):
        for names, key in (
            ({}, 1), ({3: 1, 2: 4}, 1), ({1: 1}, 2), ({1: 1, 3: 3, 5: 5}, 2), ({2: 1, 1: 1}, 3), ({2: -1, 1: 10000}, 3),
        ):
            self.assert_raises(UnknownKey, {"key": key}, relabel, CIRCLE, names)

    def test_names_that_are_not_distinct_or_beyond_the_bounds(self):
        for names in (
            {1: 1, 2: 1, 3: 3}, {1: 5, 2: 5, 3: 5}, {1: 1, 2: 2, 3: 1}, {1: -1, 2: 2, 3: 3}, {1: 1, 2: 10000, 3: 3},
            {1: 1, 2: 2, 3: 99999}, {1: -5, 2: 10000, 3: 3},
        ):
            self.assert_raises(InvalidState, {"replica": 0}, relabel, CIRCLE, names)


class RotateTest(DriftCase):
    def test_around(self):
        first, second, third = CIRCLE.lists()
        wanted = {0: (first, second, third), 1: (third, first, second), 2: (second, third, first)}
        for by in list(range(-12, 13)) + [100, -100, 3 * 10 ** 30, 3 * 10 ** 30 + 1, -(10 ** 30)]:
            self.assertEqual(rotate(CIRCLE, by), State(*wanted[by % 3]))
        self.assertEqual(rotate(CIRCLE, -1), State(second, third, first))

    def test_to_and_fro(self):
        for state in SOME:
            for by in (-7, -2, -1, 0, 1, 2, 5):
                found = rotate(state, by)
                self.assertEqual(rotate(found, -by), state)
                self.assertEqual(read(found), read(state))
                for replica in range(3):
                    self.assertEqual(found.list_of((replica + by) % 3), state.list_of(replica))


class NestTest(DriftCase):
    def test_each_list_takes_the_place_of_the_key(self):
        inner = State([20, 21], [21, 20], [21, 20])
        for outer in (SINGLE, CIRCLE, FOURS[2], FIVES[1]):
            for key in outer.all_keys():
                found = nest(outer, key, inner)
                for replica in range(3):
                    wanted = []
                    for other in outer.list_of(replica):
                        wanted += inner.list_of(replica) if other == key else [other]
                    self.assertEqual(found.list_of(replica), wanted)

    def test_no_keys(self):
        for outer in (SINGLE, CIRCLE, FOURS[2]):
            for key in outer.all_keys():
                self.assertEqual(nest(outer, key, EMPTY), outer - key)

    def test_the_replaced_key_itself(self):
        self.assertEqual(nest(CIRCLE, 2, State.same([2])), CIRCLE)
        inner = State([2, 9], [9, 2], [2, 9])
        self.assertEqual(str(nest(CIRCLE, 2, inner)), "1 2 9 3 / 9 2 3 1 / 3 1 2 9")
        self.assertEqual(nest(SINGLE, 4, CIRCLE), CIRCLE)

    def test_unknown_keys_come_first(self):
        for outer in SOME:
            for key in [key for key in WRONG_KEYS if key not in outer.all_keys()]:
                for inner in (EMPTY, outer, TWELVES[0], State.same([key % 10000])):
                    self.assert_raises(UnknownKey, {"key": key}, nest, outer, key, inner)

    def test_shared_keys(self):
        for inner, key, shared in (
            (State.same([1]), 2, 1), (State.same([3, 1]), 2, 1), (State.same([2, 3]), 2, 3), (State.same([9, 3, 2]), 1, 2),
            (CIRCLE, 1, 2), (CIRCLE, 2, 1), (State.same([3] + list(range(10, 21))), 2, 3),
        ):
            self.assert_raises(SharedKey, {"key": shared}, nest, CIRCLE, key, inner)

    def test_too_many_keys(self):
        inner = State.same(list(range(20, 31)))
        self.assertEqual(len(nest(PAIRS[0], 2, inner)), 12)
        self.assert_raises(InvalidState, {"replica": 0}, nest, CIRCLE, 2, inner)
        self.assert_raises(InvalidState, {"replica": 0}, nest, TWELVES[0], 0, State.same([8, 77]))
        self.assertEqual(len(nest(TWELVES[0], 0, State.same([8]))), 12)

    def test_words_of_both(self):
        for outer, inner in ((CIRCLE, State([20, 21], [21, 20], [20, 21])), (FOURS[4], CIRCLE + SINGLE)):
            key = outer.all_keys()[0]
            found = nest(outer, key, inner - 1 if 1 in inner else inner)
            for x, y in permutations(outer.all_keys()[1:], 2):
                self.assertEqual(read_before(found, x, y), read_before(outer, x, y))


class PartsTest(DriftCase):
    def test_without_all_other_keys(self):
        counts = set()
        for state in STATES:
            found = parts(state)
            self.assertIs(type(found), list)
            self.assertEqual([part.all_keys() for part in found], read(state).components())
            for part in found:
                wanted = state
                for key in state.all_keys():
                    wanted = wanted if key in part.all_keys() else wanted - key
                self.assertEqual(part, wanted)
            counts.add(len(found))
        self.assertTrue({0, 1, 2, 3, 4} <= counts)

    def test_the_sum_of_their_settled_states(self):
        for state in STATES:
            total = EMPTY
            for part in parts(state):
                total = total + settle(part)
            self.assertEqual(total, settle(state))
            self.assertEqual(total, closed_home(state))

    def test_some_parts(self):
        state = State([9, 3, 2, 1, 8], [9, 2, 1, 3, 8], [1, 3, 2, 9, 8])
        self.assertEqual([str(part) for part in parts(state)], ["9 / 9 / 9", "3 2 1 / 2 1 3 / 1 3 2", "8 / 8 / 8"])
        self.assertEqual(parts(EMPTY), [])
        self.assertEqual(parts(SINGLE), [SINGLE])


class ArgumentsTest(DriftCase):
    def test_arguments_stay_as_they_were(self):
        state, run, names = State([1, 2, 3], [2, 3, 1], [3, 1, 2]), Run([]), {1: 4, 2: 5, 3: 6}
        inner = State.same([7, 8])
        calls = [
            lambda: project_run(state, run, 2), lambda: insert_key(state, 9, (0, 1, 2)), lambda: cycles_with(state, 1),
            lambda: relabel(state, names), lambda: rotate(state, 1), lambda: nest(state, 1, inner), lambda: parts(state),
        ]
        for call in calls:
            call()
            self.assertEqual((state, run.steps(), inner), (CIRCLE, [], State.same([7, 8])))
            self.assertEqual(names, {1: 4, 2: 5, 3: 6})
        cycles_with(state, 1).clear()
        parts(state).clear()
        parts(state)[0].lists()[0].clear()
        self.assertEqual((cycles_with(state, 1), parts(state)), ([(1, 2, 3)], [CIRCLE]))


if __name__ == "__main__":
    unittest.main()
