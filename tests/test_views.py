"""Point 37: states and Trios side by side."""

import unittest

from quorumdrift.cachesets import CacheSet
from quorumdrift.dependencysets import DependencySet
from quorumdrift.errors import AudibleSwap, InvalidContents, InvalidOption, InvalidSwap, UnlikeContents, UnlikeKeys
from quorumdrift.orderlists import OrderList
from quorumdrift.paths import play_path, trio_explain, trio_reaches
from quorumdrift.reach import reaches, route
from quorumdrift.runs import Run, play
from quorumdrift.shardmaps import ShardMap
from quorumdrift.states import State
from quorumdrift.tierlists import TierList
from quorumdrift.trios import Trio
from quorumdrift.views import as_trio, kinds_reach, loosen, view_path
from tests.helpers import DriftCase
from tests.oracles import CIRCLE, EMPTY, FIVES, FOURS, SINGLE, TRIPLES, TWELVES, all_swaps, keeps_reading, state_of
from tests.oracles import swapped, walked
from tests.trio_oracles import THREE, some_cases

KINDS = ("orders", "dependencies", "tiers")
WRONG_KINDS = ("", "order", "Orders", "shards", "caches", " orders", "tiers ", "\n", "other")
STATES = [EMPTY, SINGLE, CIRCLE] + TRIPLES[::11] + FOURS[::4] + FIVES[::5] + [state_of(8, seed) for seed in range(3)]
NINE = State.same(list(range(9)))


def contents_of(order, kind):
    """The list as contents, by the document's words."""
    pairs = [(x, y) for at, x in enumerate(order) for y in order[at + 1:]]
    if kind == "orders":
        return OrderList(order)
    return DependencySet(sorted(order), pairs) if kind == "dependencies" else TierList([[key] for key in order])


def steps_of(state, run, kind):
    """The path of a run of silent swaps, by the document's words."""
    path = []
    for replica, index in run.steps():
        order = state.list_of(replica)
        x, y = order[index:index + 2]
        state = swapped(state, (replica, index))
        if kind == "dependencies":
            pairs = [(u, v) for at, u in enumerate(order) for v in order[at + 1:] if (u, v) != (x, y)]
            path.append((replica, DependencySet(order, pairs)))
        if kind == "tiers":
            ranks = [[key] for key in order[:index]] + [[x, y]] + [[key] for key in order[index + 2:]]
            path.append((replica, TierList(ranks)))
        path.append((replica, contents_of(state.list_of(replica), kind)))
    return path


class AsTrioTest(DriftCase):
    def test_each_kind(self):
        for state in STATES:
            for kind in KINDS:
                trio = as_trio(state, kind)
                self.assertIs(type(trio), Trio)
                for replica in range(3):
                    self.assertEqual(trio.contents_of(replica), contents_of(state.list_of(replica), kind))
                self.assertEqual(trio.label(), f"{kind}: {len(state)} keys")

    def test_too_many_keys(self):
        for state in [NINE] + TWELVES:
            for kind in KINDS:
                self.assert_raises(InvalidContents, {}, as_trio, state, kind)

    def test_unknown_kinds_come_first(self):
        for kind in WRONG_KINDS:
            for state in (CIRCLE, EMPTY, NINE):
                self.assert_raises(InvalidOption, {"option": kind}, as_trio, state, kind)
                for run in (Run([]), Run.of((9, 0)), Run.of((0, 0))):
                    self.assert_raises(InvalidOption, {"option": kind}, view_path, state, run, kind)


class ViewPathTest(DriftCase):
    def test_runs_without_faults(self):
        steps = 0
        for seed, state in enumerate(STATES):
            goal = walked(state, 7, seed)
            for run in (route(state, goal), route(goal, state) + route(state, state), Run([])):
                start = state if run == route(state, goal) or len(run) == 0 else goal
                for kind in KINDS:
                    path = view_path(start, run, kind)
                    self.assertIs(type(path), list)
                    self.assertEqual(path, steps_of(start, run, kind))
                    self.assertEqual(len(path), len(run) * (1 if kind == "orders" else 2))
                    self.assertEqual(play_path(as_trio(start, kind), path), as_trio(play(start, run), kind))
                    steps += len(path)
        self.assertGreater(steps, 1000)

    def test_some_paths(self):
        state = State([1, 2, 3], [1, 2, 3], [1, 2, 3])
        run = Run.of((2, 1), (0, 0))
        self.assertEqual(view_path(state, run, "orders"), [(2, OrderList([1, 3, 2])), (0, OrderList([2, 1, 3]))])
        found = [(replica, contents.pairs()) for replica, contents in view_path(state, run, "dependencies")]
        self.assertEqual(found, [
            (2, [(1, 2), (1, 3)]), (2, [(1, 2), (1, 3), (3, 2)]), (0, [(1, 3), (2, 3)]), (0, [(1, 3), (2, 1), (2, 3)]),
        ])
        found = [(replica, contents.ranks()) for replica, contents in view_path(state, run, "tiers")]
        self.assertEqual(found, [(2, [[1], [2, 3]]), (2, [[1], [3], [2]]), (0, [[1, 2], [3]]), (0, [[2], [1], [3]])])

    def test_runs_with_faults(self):
        audible = 0
        for seed, state in enumerate(STATES):
            goal = walked(state, 5, seed)
            run = route(state, goal)
            for kind in KINDS:
                for swap in ((3, 0), (-1, 0), (0, -1), (1, len(state) - 1), (2, 10000)):
                    for rest in (Run([]), Run.of((0, 0), (7, 7))):
                        error = {"step": len(run)}
                        self.assert_raises(InvalidSwap, error, view_path, state, run + Run.of(swap) + rest, kind)
                for swap in [swap for swap in all_swaps(goal) if not keeps_reading(goal, swap)][::3]:
                    audible += 1
                    wrong = run + Run.of(swap, (9, 9))
                    self.assert_raises(AudibleSwap, {"step": len(run)}, view_path, state, wrong, kind)
        self.assertGreater(audible, 50)

    def test_too_many_keys_ahead_of_faults(self):
        for state in [NINE] + TWELVES:
            for kind in KINDS:
                for run in (Run([]), Run.of((0, 0)), Run.of((9, 0)), Run.of((0, 55))):
                    self.assert_raises(InvalidContents, {}, view_path, state, run, kind)

    def test_arguments_stay_as_they_were(self):
        state, run = State([1, 2, 3], [1, 2, 3], [1, 2, 3]), Run.of((2, 1), (0, 0))
        for kind in KINDS:
            view_path(state, run, kind).clear()
            self.assertEqual((state, run), (State.same([1, 2, 3]), Run.of((2, 1), (0, 0))))
            self.assertEqual(len(view_path(state, run, kind)), 2 if kind == "orders" else 4)


class KindsReachTest(DriftCase):
    def test_states_of_one_class_and_of_different_ones(self):
        counts = {True: 0, False: 0}
        pairs = [(TRIPLES[at], TRIPLES[(7 * at + step) % 216]) for at in range(0, 216, 4) for step in (0, 1, 50)]
        for seed, state in enumerate(STATES):
            first, second, third = state.lists()
            pairs += [(state, walked(state, many, seed)) for many in (0, 3, 9)]
            pairs += [(state, State(second, third, first)), (state, -state)]
        for start, goal in pairs:
            wanted = reaches(start, goal)
            counts[wanted] += 1
            self.assertEqual(kinds_reach(start, goal), (wanted, wanted, wanted))
        self.assertGreater(min(counts.values()), 50)

    def test_unlike_keys_ahead_of_too_many(self):
        twelve = State.same(list(range(12)))
        cases = [
            (SINGLE, EMPTY, 4), (CIRCLE, CIRCLE - 2, 2), (NINE, twelve, 9), (twelve, NINE - 3, 3),
            (State.same([1, 2]), State.same([1, 3]), 2), (NINE, NINE - 8, 8),
        ]
        for start, goal, key in cases:
            self.assert_raises(UnlikeKeys, {"key": key}, kinds_reach, start, goal)
            self.assert_raises(UnlikeKeys, {"key": key}, kinds_reach, goal, start)
        for state in [NINE, twelve] + TWELVES:
            self.assert_raises(InvalidContents, {}, kinds_reach, state, state)


class LoosenTest(DriftCase):
    def test_the_words_stay(self):
        loosened = 0
        for case in some_cases(THREE, 30, 4):
            trio = case.trio()
            if case.kind.owner is TierList:
                loose = loosen(trio)
                loosened += 1
                self.assertEqual(loose.reading(), trio.reading())
                for replica in range(3):
                    pairs = trio.contents_of(replica).words()
                    self.assertEqual(loose.contents_of(replica), DependencySet(list(THREE), pairs))
            else:
                self.assert_raises(UnlikeContents, {}, loosen, trio)
        self.assertEqual(loosened, 30)

    def test_no_keys(self):
        self.assertEqual(loosen(Trio(*[TierList([])] * 3)), Trio(*[DependencySet([], [])] * 3))
        for contents in (OrderList([]), ShardMap([]), DependencySet([], []), CacheSet([], [], [])):
            self.assert_raises(UnlikeContents, {}, loosen, Trio(*[contents] * 3))

    def test_tiers_that_reach_each_other_do_so_as_dependencies(self):
        cases = [case for case in some_cases(THREE, 12, 6) if case.kind.owner is TierList]
        for seed, case in enumerate(cases):
            there = case.walked(6, seed)
            self.assertTrue(trio_reaches(case.trio(), there.trio()))
            self.assertTrue(trio_reaches(loosen(case.trio()), loosen(there.trio())))

    def test_but_not_the_other_way_about(self):
        flat, one, two = TierList([[0, 1, 2]]), TierList([[0], [1, 2]]), TierList([[0, 2], [1]])
        start, goal = Trio(flat, one, two), Trio(one, flat, two)
        self.assertEqual(trio_explain(start, goal), ("dealt", ((0, 1), (0, 2), (2, 1))))
        self.assertIs(trio_reaches(loosen(start), loosen(goal)), True)


if __name__ == "__main__":
    unittest.main()
