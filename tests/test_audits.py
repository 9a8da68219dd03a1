"""Point 41: what is known of runs of which only the ends are seen, and swaps too many or too few in a run."""

import random
import unittest
from itertools import combinations

from quorumdrift.audits import Audit, extra_swaps, missing_swaps
from quorumdrift.distances import can_take
from quorumdrift.errors import NotReachable, UnknownReplica, UnlikeKeys
from quorumdrift.reach import explain_reach, route
from quorumdrift.runs import Run
from quorumdrift.states import State
from tests.helpers import DriftCase, stands_before
from tests.oracles import CIRCLE, EMPTY, FOURS, PAIRS, SINGLE, TRIPLES, TWELVES, WRONG_REPLICAS, all_swaps
from tests.oracles import keeps_reading, silent_steps, state_of, swapped, walked

RICH = State([2, 4, 3, 1], [3, 1, 2, 4], [1, 4, 3, 2])
SMALL = [EMPTY, SINGLE, CIRCLE, RICH] + PAIRS[::2] + TRIPLES[::13] + FOURS[1::8]


def ends():
    """Pairs of states of one class."""
    found = []
    for seed, state in enumerate(SMALL):
        found += [(walked(state, first, seed), walked(state, second, seed + 50)) for first, second in ((0, 0), (0, 3), (5, 8))]
    return found


ENDS = ends()


def tuples_of(state):
    """The lists of a state as tuples."""
    return tuple(map(tuple, state.lists()))


def turned_by(lists, there):
    """The replica and the pair (x, y), x < y, that a swap between these lists exchanges."""
    replica = [mine != theirs for mine, theirs in zip(lists, there)].index(True)
    pair = tuple(sorted(x for x, y in zip(lists[replica], there[replica]) if x != y))
    return replica, pair


def exchanged(start):
    """The (replica, pair) of all silent swaps of all states to which silent swaps lead."""
    first = tuples_of(start)
    met, border, found = {first}, [first], set()
    while border:
        beyond = []
        for lists in border:
            for there in silent_steps(lists):
                found.add(turned_by(lists, there))
                if there not in met:
                    met.add(there)
                    beyond.append(there)
        border = beyond
    return found


def fewest_of(start, goal, replica):
    """The fewest swaps of this replica in a run from start to goal, however many the others make."""
    cost = {tuples_of(start): 0}
    border = [tuples_of(start)]
    while border:
        beyond = []
        for lists in border:
            for there in silent_steps(lists):
                price = cost[lists] + (lists[replica] != there[replica])
                if price < cost.get(there, 10 ** 9):
                    cost[there] = price
                    beyond.append(there)
        border = beyond
    return cost[tuples_of(goal)]


def leads(start, swaps, goal):
    """Whether the swaps exist and are silent, one after the other, and lead from start to goal."""
    for swap in swaps:
        if swap not in all_swaps(start) or not keeps_reading(start, swap):
            return False
        start = swapped(start, swap)
    return start == goal


class AuditTest(DriftCase):
    def test_moved_odd_pairs_and_shares(self):
        odd = 0
        for start, goal in ENDS + [(state, walked(state, 40, 1)) for state in TWELVES]:
            audit = Audit(start, goal)
            wanted = []
            for replica in range(3):
                mine, theirs = start.list_of(replica), goal.list_of(replica)
                pairs = sorted(
                    (x, y) for at, x in enumerate(mine) for y in mine[at + 1:] if stands_before(theirs, y, x)
                )
                self.assertEqual(audit.odd_pairs(replica), pairs)
                wanted.append(len(pairs))
            self.assertEqual(audit.shares(), tuple(wanted))
            self.assertEqual(audit.moved(), [replica for replica in range(3) if wanted[replica]])
            self.assertIs(type(audit.moved()), list)
            odd += sum(wanted)
        self.assertGreater(odd, 150)

    def test_odd_pairs_are_exchanged_an_odd_number_of_times(self):
        for seed, (start, goal) in enumerate(ENDS):
            chance = random.Random(seed)
            for _ in range(3):
                lists, counts = tuples_of(start), {}
                for _ in range(chance.randrange(12)):
                    steps = silent_steps(lists)
                    if steps:
                        there = chance.choice(steps)
                        turned = turned_by(lists, there)
                        counts[turned] = counts.get(turned, 0) + 1
                        lists = there
                audit = Audit(start, State(*map(list, lists)))
                for replica in range(3):
                    odd = sorted(pair for (mover, pair), many in counts.items() if mover == replica and many % 2)
                    self.assertEqual(sorted(tuple(sorted(pair)) for pair in audit.odd_pairs(replica)), odd)

    def test_possibly_and_never_against_a_search(self):
        sizes = {"possibly": 0, "never": 0}
        for start, goal in ENDS:
            audit, found = Audit(start, goal), exchanged(start)
            for replica in range(3):
                pairs = list(combinations(start.all_keys(), 2))
                possibly = [pair for pair in pairs if (replica, pair) in found]
                self.assertEqual(audit.possibly(replica), possibly)
                self.assertEqual(audit.never(replica), [pair for pair in pairs if pair not in possibly])
                sizes["possibly"] += len(possibly)
                sizes["never"] += len(pairs) - len(possibly)
        self.assertGreater(min(sizes.values()), 100)

    def test_each_share_is_enough_for_the_replica_by_itself(self):
        for start, goal in ENDS[::2]:
            fewest = tuple(fewest_of(start, goal, replica) for replica in range(3))
            self.assertEqual(Audit(start, goal).shares(), fewest)

    def test_can_take(self):
        answers = set()
        for start, goal in ENDS[::2]:
            audit = Audit(start, goal)
            reached = {tuples_of(start)}
            for count in range(12):
                found = audit.can_take(count)
                self.assertIs(found, can_take(start, goal, count))
                if found is not None:
                    self.assertIs(found, tuples_of(goal) in reached)
                answers.add(found)
                reached = {there for lists in reached for there in silent_steps(lists)}
            self.assertIs(audit.can_take(-1), False)
            self.assertIs(audit.can_take(-10 ** 20), False)
        self.assertTrue({True, False} <= answers)

    def test_what_is_fixed_in_a_circle(self):
        audit = Audit(CIRCLE, CIRCLE)
        for replica in range(3):
            self.assertEqual((audit.possibly(replica), audit.odd_pairs(replica)), ([], []))
            self.assertEqual(audit.never(replica), [(1, 2), (1, 3), (2, 3)])
        self.assertEqual((audit.moved(), audit.shares(), audit.can_take(0), audit.can_take(2)), ([], (0, 0, 0), True, False))
        audit = Audit(State.same([2, 1]), State([2, 1], [1, 2], [2, 1]))
        self.assertEqual((audit.odd_pairs(1), audit.possibly(1), audit.never(1)), ([(2, 1)], [(1, 2)], []))

    def test_unlike_keys_and_then_not_reachable(self):
        cases = [(CIRCLE, EMPTY, 1), (CIRCLE, CIRCLE - 3, 3), (State.same([1, 2]), State.same([1, 3]), 2), (SINGLE, CIRCLE, 1)]
        for start, goal, key in cases:
            self.assert_raises(UnlikeKeys, {"key": key}, Audit, start, goal)
            self.assert_raises(UnlikeKeys, {"key": key}, Audit, goal, start)
        refused = 0
        for start, goal in zip(TRIPLES[::3], TRIPLES[5::3]):
            certificate = explain_reach(start, goal)
            if certificate is not None:
                refused += 1
                self.assert_raises(NotReachable, {"certificate": certificate}, Audit, start, goal)
        self.assertGreater(refused, 30)

    def test_unknown_replicas(self):
        for start, goal in ENDS[::9]:
            audit = Audit(start, goal)
            for replica in WRONG_REPLICAS:
                for action in (audit.odd_pairs, audit.possibly, audit.never):
                    self.assert_raises(UnknownReplica, {"replica": replica}, action, replica)

    def test_results_are_new(self):
        start, goal = State.same([1, 2, 3]), State([2, 1, 3], [1, 2, 3], [1, 3, 2])
        audit = Audit(start, goal)
        for ask in (audit.moved, lambda: audit.odd_pairs(0), lambda: audit.possibly(0), lambda: Audit(RICH, RICH).never(0)):
            before = list(ask())
            self.assertTrue(before)
            ask().clear()
            self.assertEqual(ask(), before)
        self.assertEqual((start, goal), (State.same([1, 2, 3]), State([2, 1, 3], [1, 2, 3], [1, 3, 2])))


def runs_between():
    """Triples of two states and a run: right ones, with a swap too many or too few, with faults, to other goals."""
    found = []
    for seed, (start, goal) in enumerate(ENDS):
        swaps = route(start, goal).steps()
        chance = random.Random(seed)
        place = chance.randrange(len(swaps) + 1)
        choices = all_swaps(start) + [(3, 0), (0, -1), (-1, 0), (1, len(start) - 1)]
        longer = swaps[:place] + [chance.choice(choices)] + swaps[place:]
        twice = swaps[:place] + [chance.choice(choices)] * 2 + swaps[place:]
        shorter = swaps[:place] + swaps[place + 1:]
        for run in (swaps, longer, twice, shorter, shorter[::-1], [], [chance.choice(choices)], swaps + [(9, 9)]):
            found.append((start, goal, run))
        found.append((start, -goal, longer))
        found.append((CIRCLE, -CIRCLE, swaps))
    return found


RUNS = runs_between()


class ExtraAndMissingTest(DriftCase):
    def test_extra_swaps(self):
        found = 0
        for start, goal, swaps in RUNS:
            wanted = [at for at in range(len(swaps)) if leads(start, swaps[:at] + swaps[at + 1:], goal)]
            self.assertEqual(extra_swaps(start, goal, Run(swaps)), wanted)
            found += len(wanted)
        self.assertGreater(found, 50)

    def test_missing_swaps(self):
        found = 0
        for start, goal, swaps in RUNS[::3]:
            wanted = [
                (at, swap) for at in range(len(swaps) + 1) for swap in all_swaps(start)
                if leads(start, swaps[:at] + [swap] + swaps[at:], goal)
            ]
            self.assertEqual(missing_swaps(start, goal, Run(swaps)), wanted)
            found += len(wanted)
        self.assertGreater(found, 20)

    def test_some_swaps(self):
        start, goal = State.same([1, 2, 3]), State([2, 1, 3], [1, 2, 3], [1, 2, 3])
        run = Run.of((0, 0), (1, 0))
        self.assertEqual(extra_swaps(start, goal, run), [1])
        self.assertEqual(extra_swaps(start, goal, Run.of((0, 0), (7, 7))), [1])
        self.assertEqual(extra_swaps(start, goal, Run.of((0, 0), (2, 1), (2, 1))), [])
        self.assertEqual(extra_swaps(start, start, Run.of((2, 1), (2, 1), (2, 1))), [0, 1, 2])
        # After the swap of replica 0 those of replica 1 would be audible.
        self.assertEqual(missing_swaps(start, goal, Run.of((1, 0), (1, 0))), [(2, (0, 0))])
        self.assertEqual(missing_swaps(start, goal, Run([])), [(0, (0, 0))])
        self.assertEqual(missing_swaps(start, goal, Run.of((0, 0))), [])
        self.assertEqual(missing_swaps(start, start, Run.of((0, 0))), [(0, (0, 0)), (1, (0, 0))])

    def test_audible_swaps_are_not_missing(self):
        start, goal = State([1, 2], [2, 1], [1, 2]), State([2, 1], [2, 1], [1, 2])
        self.assertEqual(missing_swaps(start, goal, Run([])), [])
        self.assertEqual(missing_swaps(start, goal, Run.of((1, 0))), [])
        # Once replica 1 has gone the other way, replica 0 can be exchanged.
        there = State([2, 1], [1, 2], [1, 2])
        self.assertEqual(missing_swaps(start, there, Run.of((1, 0))), [(1, (0, 0))])

    def test_a_run_that_is_too_long_for_trying_each_swap_out(self):
        state = State.same(list(range(12)))
        run = Run.of((0, 0), (0, 0)) * 300 + Run.of((1, 5))
        goal = State(list(range(12)), [0, 1, 2, 3, 4, 6, 5] + list(range(7, 12)), list(range(12)))
        self.assertEqual(extra_swaps(state, goal, run), [])
        self.assertEqual(extra_swaps(state, state, run), [600])
        self.assertEqual(missing_swaps(state, state, run), [(at, (1, 5)) for at in range(602)])

    def test_unlike_keys(self):
        for start, goal, key in ((CIRCLE, EMPTY, 1), (CIRCLE, CIRCLE - 2, 2), (SINGLE, State.same([5]), 4)):
            for run in (Run([]), Run.of((0, 0)), Run.of((9, 9), (0, 0))):
                for action in (extra_swaps, missing_swaps):
                    self.assert_raises(UnlikeKeys, {"key": key}, action, start, goal, run)
                    self.assert_raises(UnlikeKeys, {"key": key}, action, goal, start, run)

    def test_arguments_stay_as_they_were(self):
        start, goal, run = state_of(4, 2), state_of(4, 2), Run.of((0, 0), (0, 0))
        extra_swaps(start, goal, run)
        missing_swaps(start, goal, run).clear()
        self.assertEqual((start, goal, run.steps()), (state_of(4, 2), state_of(4, 2), [(0, 0), (0, 0)]))


if __name__ == "__main__":
    unittest.main()
