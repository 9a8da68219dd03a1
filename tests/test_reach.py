"""Point 19: whether silent swaps lead from one state to another, by which run, or why not."""

import unittest
from itertools import combinations, product

from quorumdrift.certificates import Certificate, DealtOtherwise, NotAllowed, ReadOtherwise
from quorumdrift.errors import NotReachable, UnknownReplica, UnlikeKeys
from quorumdrift.reach import check_route, explain_reach, reaches, route
from quorumdrift.runs import Run, first_fault, play
from quorumdrift.settling import settle_run
from quorumdrift.states import State
from tests.helpers import DriftCase, shuffled
from tests.oracles import CIRCLE, EMPTY, FIVES, FOURS, SINGLE, TRIPLES, TWELVES, WRONG_REPLICAS
from tests.oracles import all_swaps, circles, dissenters, keeps_reading, read_before, spread, subsets_of_replicas
from tests.oracles import state_of, swapped, walked

TURNED = State([2, 3, 1], [1, 2, 3], [3, 1, 2])
# Circles of five keys, with free pairs beside them.
RICH = [state for state in (state_of(5, seed) for seed in range(41, 141, 2)) if circles(state)][:12]


def texts_of(state, movers):
    """The states that a search over silent swaps finds, as texts."""
    return {" / ".join(" ".join(map(str, order)) for order in lists) for lists in spread(state, movers)}


def reason_for(start, goal, movers):
    """The certificate that comes first by the document's words, for states that are not reachable."""
    keys = start.all_keys()
    for x, y in combinations(keys, 2):
        if read_before(start, x, y) != read_before(goal, x, y):
            return ReadOtherwise((x, y))
    for x, y, z in sorted(triple for triple in circles(start) if triple[0] == min(triple)):
        if any(dissenters(start, *pair) != dissenters(goal, *pair) for pair in ((x, y), (y, z), (z, x))):
            return DealtOtherwise((x, y, z))
    for replica in range(3):
        for x, y in combinations(keys, 2):
            if replica not in movers and start.says(replica, x, y) != goal.says(replica, x, y):
                return NotAllowed(replica, (x, y))
    return None


def mixed_pairs():
    """Pairs of states of the same keys: of one class and of different ones."""
    pairs = [(TRIPLES[place], TRIPLES[(place * 7 + step) % 216]) for place in range(0, 216, 2) for step in (0, 1, 50)]
    for states in (FOURS[:20], FIVES[:10], RICH, TWELVES):
        for seed, state in enumerate(states):
            pairs += [(state, walked(state, many, seed)) for many in (0, 1, 2, 9)]
            pairs += list(product([state], states[seed:seed + 2]))
            # The same lists in other replicas are read alike, but dealt otherwise where there is a circle.
            first, second, third = state.lists()
            pairs += [(state, walked(State(second, third, first), many, seed)) for many in (0, 7)]
            pairs += [(state, walked(State(first, third, second), many, seed)) for many in (0, 7)]
    return [(start, goal) for start, goal in pairs if start.all_keys() == goal.all_keys()]


MIXED = mixed_pairs()


class ReachesTest(DriftCase):
    def test_against_a_search(self):
        counts = {True: 0, False: 0}
        for movers in subsets_of_replicas():
            for start in [EMPTY, SINGLE, CIRCLE] + TRIPLES[::9]:
                found = texts_of(start, movers)
                goals = TRIPLES if start.all_keys() == [1, 5, 30] else [start, TURNED, CIRCLE, -CIRCLE]
                for goal in goals:
                    if goal.all_keys() == start.all_keys():
                        wanted = str(goal) in found
                        self.assertIs(reaches(start, goal, movers=movers), wanted)
                        self.assertIs(explain_reach(start, goal, movers=movers) is None, wanted)
                        counts[wanted] += 1
        self.assertGreater(min(counts.values()), 800)

    def test_against_a_search_of_four_and_five_keys(self):
        for start in FOURS[1:20:3] + RICH[:4]:
            for movers in ((0, 1, 2), (0, 2), (1,)):
                found = texts_of(start, movers)
                goals = [walked(start, many, many) for many in (1, 2, 3, 5, 8, 20)]
                for goal in goals + [swapped(goal, swap) for goal in goals for swap in all_swaps(goal)[::4]]:
                    self.assertIs(reaches(start, goal, movers=movers), str(goal) in found)

    def test_all_replicas_may_move_if_none_are_named(self):
        for start, goal in MIXED:
            self.assertIs(reaches(start, goal), reaches(start, goal, movers=(0, 1, 2)))
            self.assertEqual(explain_reach(start, goal), explain_reach(start, goal, movers=(0, 1, 2)))

    def test_repeated_movers_and_lists_of_movers(self):
        for start, goal in MIXED[::5]:
            for movers, plain in (([2, 0], (0, 2)), ((1, 1, 1), (1,)), ([], ()), ([0, 1, 0, 2], (0, 1, 2))):
                self.assertIs(reaches(start, goal, movers=movers), reaches(start, goal, movers=plain))
                self.assertEqual(explain_reach(start, goal, movers=movers), explain_reach(start, goal, movers=plain))

    def test_twelve_keys(self):
        for state in TWELVES:
            there = walked(state, 60, 1)
            self.assertIs(reaches(state, there), True)
            self.assertIs(reaches(there, state), True)
            self.assertIs(reaches(state, -state), False)

    def test_without_movers_only_the_state_itself(self):
        for start, goal in MIXED:
            self.assertIs(reaches(start, goal, movers=()), start == goal)


class ExplainTest(DriftCase):
    def test_against_the_words(self):
        kinds = {None: 0, ReadOtherwise: 0, DealtOtherwise: 0, NotAllowed: 0}
        for start, goal in MIXED:
            for movers in subsets_of_replicas():
                found = explain_reach(start, goal, movers=movers)
                wanted = reason_for(start, goal, movers)
                if wanted is None:
                    self.assertIsNone(found)
                    kinds[None] += 1
                else:
                    self.assertIs(type(found), type(wanted))
                    self.assertEqual(vars(found), vars(wanted))
                    self.assertIs(found.holds(start, goal, movers=movers), True)
                    self.assertIsInstance(found, Certificate)
                    kinds[type(wanted)] += 1
        self.assertGreater(min(kinds.values()), 20)

    def test_every_pair_of_states_of_three_keys_in_a_circle(self):
        around = [state for state in TRIPLES if circles(state)]
        for start, goal in product(around, repeat=2):
            wanted = reason_for(start, goal, (0, 1, 2))
            if wanted is None:
                self.assertIsNone(explain_reach(start, goal))
            else:
                self.assertEqual(explain_reach(start, goal), wanted)

    def test_the_first_kind_comes_first_and_the_least_of_its_kind(self):
        start = State([1, 2, 3, 4], [1, 2, 3, 4], [1, 2, 3, 4])
        goal = State([4, 3, 2, 1], [4, 3, 2, 1], [1, 2, 3, 4])
        self.assertEqual(explain_reach(start, goal, movers=()), ReadOtherwise((1, 2)))
        self.assertEqual(explain_reach(start, start.with_list(2, [1, 4, 3, 2]), movers=[0]), NotAllowed(2, (2, 3)))
        turned = start.with_list(1, [2, 1, 3, 4]).with_list(2, [1, 2, 4, 3])
        self.assertEqual(explain_reach(start, turned, movers=(0,)), NotAllowed(1, (1, 2)))
        self.assertEqual(explain_reach(start, turned, movers=(1,)), NotAllowed(2, (3, 4)))
        self.assertEqual(explain_reach(CIRCLE, TURNED, movers=[]), DealtOtherwise((1, 2, 3)))
        self.assertEqual(explain_reach(CIRCLE, -CIRCLE, movers=[]), ReadOtherwise((1, 2)))

    def test_of_two_circles_the_first_that_is_dealt_otherwise(self):
        circle = State([4, 5, 6], [5, 6, 4], [6, 4, 5])
        turned = State([5, 6, 4], [4, 5, 6], [6, 4, 5])
        self.assertEqual(explain_reach(CIRCLE + circle, CIRCLE + turned), DealtOtherwise((4, 5, 6)))
        self.assertEqual(explain_reach(CIRCLE + circle, TURNED + turned), DealtOtherwise((1, 2, 3)))


class RouteTest(DriftCase):
    def test_by_way_of_the_settled_lists(self):
        reached = 0
        for start, goal in MIXED:
            for movers in subsets_of_replicas():
                if reason_for(start, goal, movers) is None:
                    run = route(start, goal, movers=movers)
                    there = settle_run(start, replicas=movers).steps()
                    back = settle_run(goal, replicas=movers).steps()
                    self.assertIs(type(run), Run)
                    self.assertEqual(run.steps(), there + back[::-1])
                    self.assertEqual(play(start, run), goal)
                    self.assertTrue(all(swap[0] in movers for swap in run.steps()))
                    reached += 1
        self.assertGreater(reached, 300)

    def test_all_replicas_may_move_if_none_are_named(self):
        for state in FOURS[:10] + TWELVES:
            goal = walked(state, 12, 3)
            self.assertEqual(route(state, goal), route(state, goal, movers=[2, 1, 0, 0]))

    def test_from_a_state_to_itself(self):
        state = State([2, 1, 3], [1, 2, 3], [1, 3, 2])
        self.assertEqual(str(route(state, state)), "0.0 2.1 2.1 0.0")
        self.assertEqual(str(route(state, state, movers=(2,))), "2.1 2.1")
        self.assertEqual(str(route(state, state, movers=())), "")
        self.assertEqual(str(route(EMPTY, EMPTY)), "")

    def test_every_swap_is_silent(self):
        for state in FOURS[:12] + RICH:
            now = state
            goal = walked(state, 15, 2)
            for swap in route(state, goal).steps():
                self.assertTrue(keeps_reading(now, swap))
                now = swapped(now, swap)
            self.assertEqual(now, goal)

    def test_not_reachable(self):
        unreached = 0
        for start, goal in MIXED[::2]:
            for movers in subsets_of_replicas():
                wanted = reason_for(start, goal, movers)
                if wanted is not None:
                    self.assert_raises(NotReachable, {"certificate": wanted}, route, start, goal, movers=movers)
                    unreached += 1
        self.assertGreater(unreached, 300)


class CheckRouteTest(DriftCase):
    def test_right_runs_and_altered_ones(self):
        counts = {True: 0, False: 0}
        for seed, start in enumerate(TRIPLES[::20] + FOURS[1:16:3] + RICH[:3] + TWELVES[:1]):
            goal = walked(start, 6, seed)
            run = route(start, goal).steps()
            altered = [run] + [run[:place] + run[place + 1:] for place in range(len(run))]
            for place in range(0, len(run) + 1, 3):
                altered += [run[:place] + [swap] + run[place:] for swap in all_swaps(start)[::2] + [(0, -1), (3, 0)]]
                altered += [run[:place] + [swap] * 2 + run[place:] for swap in all_swaps(start)[::3]]
                altered += [run[:place] + [swap] + run[place + 1:] for swap in all_swaps(start)[1::3]]
            for swaps in altered:
                wanted = first_fault(start, Run(swaps)) is None and play(start, Run(swaps)) == goal
                self.assertIs(check_route(start, goal, Run(swaps)), wanted)
                counts[wanted] += 1
        self.assertGreater(min(counts.values()), 50)

    def test_only_movers_may_be_named(self):
        start = State.same([1, 2, 3])
        run = Run.of((0, 0), (2, 1))
        goal = play(start, run)
        for movers in subsets_of_replicas():
            self.assertIs(check_route(start, goal, run, movers=movers), 0 in movers and 2 in movers)
        for movers in ([2, 0, 2], (0, 0, 2, 1)):
            self.assertIs(check_route(start, goal, run, movers=movers), True)
        # A swap to and fro counts, too.
        self.assertIs(check_route(start, goal, Run.of((1, 0), (1, 0)) + run, movers=(0, 2)), False)
        self.assertIs(check_route(start, goal, Run.of((1, 0), (1, 0)) + run), True)

    def test_the_empty_run(self):
        for state in (EMPTY, SINGLE, CIRCLE, TWELVES[0]):
            for movers in subsets_of_replicas():
                self.assertIs(check_route(state, state, Run([]), movers=movers), True)
        self.assertIs(check_route(CIRCLE, TURNED, Run([])), False)

    def test_audible_and_invalid_swaps(self):
        start = State([1, 2], [2, 1], [1, 2])
        self.assertIs(check_route(start, State([2, 1], [2, 1], [1, 2]), Run.of((0, 0))), False)
        self.assertIs(check_route(start, start, Run.of((0, 0), (0, 0))), False)
        self.assertIs(check_route(start, start, Run.of((1, 0), (1, 0))), True)
        for replica in WRONG_REPLICAS:
            self.assertIs(check_route(start, start, Run.of((replica, 0))), False)
        for index in (-1, 1, 2, 9999):
            self.assertIs(check_route(start, start, Run.of((1, index))), False)

    def test_another_goal(self):
        start = State.same([1, 2, 3])
        self.assertIs(check_route(start, State.same([1, 2, 3]), Run.of((0, 0))), False)
        self.assertIs(check_route(start, State([2, 1, 3], [1, 2, 3], [1, 2, 3]), Run.of((0, 0))), True)
        self.assertIs(check_route(start, State([1, 2, 3], [2, 1, 3], [1, 2, 3]), Run.of((0, 0))), False)

    def test_unlike_keys(self):
        for start, goal in ((CIRCLE, EMPTY), (EMPTY, CIRCLE), (CIRCLE, CIRCLE - 3), (State.same([1]), State.same([2]))):
            for run in (Run([]), Run.of((0, 0)), Run.of((7, 7))):
                self.assertIs(check_route(start, goal, run), False)


class ErrorsTest(DriftCase):
    def test_unlike_keys(self):
        cases = [
            (State.same([1, 2]), State.same([1, 3]), 2),
            (State.same([4, 7]), State.same([7]), 4),
            (EMPTY, State.same([8, 5, 6]), 5),
            (CIRCLE, -CIRCLE + State.same([0]), 0),
            (State.same(shuffled(range(12), 1)), State.same(shuffled(range(1, 13), 1)), 0),
        ]
        for start, goal, key in cases:
            for action in (reaches, explain_reach, route):
                for movers in ((), (0, 1, 2), [1]):
                    self.assert_raises(UnlikeKeys, {"key": key}, action, start, goal, movers=movers)
                    self.assert_raises(UnlikeKeys, {"key": key}, action, goal, start, movers=movers)

    def test_unknown_replicas_come_first(self):
        for start, goal in ((CIRCLE, CIRCLE), (CIRCLE, TURNED), (CIRCLE, EMPTY), (EMPTY, SINGLE)):
            for wrong in WRONG_REPLICAS:
                for movers in ((wrong,), [1, 1, wrong, 77], [wrong, -9, 0]):
                    for action in (reaches, explain_reach, route):
                        self.assert_raises(UnknownReplica, {"replica": wrong}, action, start, goal, movers=movers)
                    for run in (Run([]), Run.of((5, 0)), Run.of((0, 0))):
                        self.assert_raises(
                            UnknownReplica, {"replica": wrong}, check_route, start, goal, run, movers=movers,
                        )

    def test_movers_by_keyword_only(self):
        for action in (reaches, explain_reach, route):
            self.assertRaises(TypeError, action, CIRCLE, CIRCLE, (0, 1))
        self.assertRaises(TypeError, check_route, CIRCLE, CIRCLE, Run([]), (0, 1))

    def test_arguments_stay_as_they_were(self):
        start, movers, run = State.same([1, 2, 3]), [2, 0, 0, 1], Run.of((0, 0))
        goal = play(start, run)
        reaches(start, goal, movers=movers)
        explain_reach(start, -goal, movers=movers)
        route(start, goal, movers=movers)
        check_route(start, goal, run, movers=movers)
        self.assertEqual((start, goal), (State.same([1, 2, 3]), State([2, 1, 3], [1, 2, 3], [1, 2, 3])))
        self.assertEqual((movers, run.steps()), ([2, 0, 0, 1], [(0, 0)]))


if __name__ == "__main__":
    unittest.main()
