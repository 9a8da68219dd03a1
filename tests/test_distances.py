"""Point 20: how many silent swaps lie between two states of one class, and what they cost."""

import unittest
from itertools import combinations

from quorumdrift.certificates import DealtOtherwise, ReadOtherwise
from quorumdrift.distances import best_run, bounds, can_take, is_shortest, least_cost, passing, straight_run
from quorumdrift.distances import useful_swaps, word_distance
from quorumdrift.errors import NotReachable, UnlikeKeys
from quorumdrift.reach import route
from quorumdrift.runs import Run, play
from quorumdrift.states import State
from tests.helpers import DriftCase, shuffled, stands_before
from tests.oracles import CIRCLE, EMPTY, FOURS, PAIRS, SINGLE, TRIPLES, TWELVES
from tests.oracles import all_swaps, circles, dissenters, keeps_reading, read_pairs, silent_steps, spread, state_of
from tests.oracles import swapped, walked

TURNED = State([2, 3, 1], [1, 2, 3], [3, 1, 2])
# The document's two states of seven keys, and a run between them.
START = State([4, 1, 2, 5, 6, 7, 3], [1, 3, 6, 2, 4, 5, 7], [2, 3, 5, 1, 7, 4, 6])
GOAL = State([2, 4, 1, 7, 3, 5, 6], [1, 3, 4, 6, 2, 5, 7], [5, 1, 2, 3, 6, 7, 4])
RUN = Run.read("2.4 2.5 0.4 0.5 0.3 0.4 2.1 2.2 2.0 2.1 0.1 0.0 1.3 1.2 2.4 2.5")
# States of five and six keys with a circle, and states of more keys.
FIVES = [state for state in (state_of(5, seed) for seed in range(41, 141, 2)) if circles(state)][:8]
SIXES = [state for state in (state_of(6, seed) for seed in range(1, 161, 2)) if len(circles(state)) > 8][:6]
WIDE = TWELVES + [state_of(8, 5), state_of(9, 6), START, GOAL]


def pairs_in_classes():
    """Pairs of states of one class, some of them equal."""
    pairs = [(EMPTY, EMPTY), (SINGLE, SINGLE), (CIRCLE, CIRCLE), (START, GOAL), (GOAL, START)]
    for states in (PAIRS, TRIPLES[::5], FOURS[:16], FIVES, SIXES, WIDE):
        for seed, state in enumerate(states):
            pairs += [(walked(state, 11, seed), walked(state, many, seed + 1)) for many in (0, 3, 20)]
            pairs.append((state, state))
    return pairs


ALIKE = pairs_in_classes()


def words_apart(start, goal):
    """For each replica, the number of pairs at which it says different things in the two states."""
    pairs = list(combinations(start.all_keys(), 2))
    return [
        len([pair for pair in pairs if stands_before(here, *pair) != stands_before(there, *pair)])
        for here, there in zip(start.lists(), goal.lists())
    ]


def useful(start, goal):
    """The silent swaps that make the word distance less by one, by counting words."""
    distance = sum(words_apart(start, goal))
    return [
        swap for swap in all_swaps(start)
        if keeps_reading(start, swap) and sum(words_apart(swapped(start, swap), goal)) == distance - 1
    ]


def by_useful_swaps(start, goal):
    """The first useful swaps, again and again, and the state to which they lead."""
    swaps = []
    choices = useful(start, goal)
    while choices:
        swaps.append(choices[0])
        start = swapped(start, choices[0])
        choices = useful(start, goal)
    return swaps, start


def passes(start, goal):
    """The tuples of passing, by the dissenters of both states."""
    found = []
    for x, y in read_pairs(start):
        here, there = dissenters(start, x, y), dissenters(goal, x, y)
        if here and there and here != there:
            found.append((x, y, here[0], there[0]))
    return found


def lengths_to(start, goal, most):
    """The lengths up to this number that runs of silent swaps from start to goal have."""
    end = tuple(map(tuple, goal.lists()))
    here = {tuple(map(tuple, start.lists()))}
    lengths = []
    for length in range(most + 1):
        if end in here:
            lengths.append(length)
        here = {there for lists in here for there in silent_steps(lists)}
    return lengths


def cheapest(start, goal, prices):
    """The least cost of a run of silent swaps from start to goal, by trying costs from the least on."""
    end = tuple(map(tuple, goal.lists()))
    waiting = {0: [tuple(map(tuple, start.lists()))]}
    done = set()
    cost = 0
    while True:
        for lists in waiting.get(cost, []):
            if lists == end:
                return cost
            if lists not in done:
                done.add(lists)
                for replica in range(3):
                    waiting.setdefault(cost + prices[replica], []).extend(silent_steps(lists, [replica]))
        cost += 1


class WordDistanceTest(DriftCase):
    def test_against_a_count(self):
        for start, goal in ALIKE:
            self.assertEqual(word_distance(start, goal), sum(words_apart(start, goal)))

    def test_no_run_is_shorter_and_all_differ_by_an_even_number(self):
        for start, goal in ALIKE:
            run = route(start, goal)
            self.assertGreaterEqual(len(run), word_distance(start, goal))
            self.assertEqual((len(run) - word_distance(start, goal)) % 2, 0)

    def test_from_a_state_to_itself(self):
        for state in (EMPTY, SINGLE, CIRCLE, TWELVES[1]):
            self.assertEqual(word_distance(state, state), 0)

    def test_all_words_of_one_replica(self):
        order = shuffled(range(12), 2)
        self.assertEqual(word_distance(State.same(order), State(order, order[::-1], order)), 66)


class PassingTest(DriftCase):
    def test_against_the_dissenters(self):
        many = 0
        for start, goal in ALIKE:
            self.assertEqual(passing(start, goal), passes(start, goal))
            many += len(passes(start, goal)) > 0
        self.assertGreater(many, 20)

    def test_who_passes_to_whom(self):
        start, goal = State([2, 1], [1, 2], [1, 2]), State([1, 2], [1, 2], [2, 1])
        self.assertEqual(passing(start, goal), [(1, 2, 0, 2)])
        self.assertEqual(passing(goal, start), [(1, 2, 2, 0)])
        for state in (EMPTY, SINGLE, CIRCLE, start):
            self.assertEqual(passing(state, state), [])
        # A pair at which a replica dissents in one of the states only does not pass.
        self.assertEqual(passing(start, State.same([1, 2])), [])
        self.assertEqual(passing(State.same([1, 2]), start), [])


class UsefulTest(DriftCase):
    def test_against_a_count(self):
        for start, goal in ALIKE:
            self.assertEqual(useful_swaps(start, goal), useful(start, goal))

    def test_none_towards_the_state_itself(self):
        for state in (EMPTY, SINGLE, CIRCLE, State.same([1, 2, 3]), TWELVES[0]):
            self.assertEqual(useful_swaps(state, state), [])

    def test_some_states(self):
        start, goal = State([2, 1], [1, 2], [1, 2]), State([1, 2], [1, 2], [2, 1])
        # While replica 0 dissents, replica 2 may not.
        self.assertEqual(useful_swaps(start, goal), [(0, 0)])
        self.assertEqual(useful_swaps(State.same([1, 2]), goal), [(2, 0)])
        self.assertEqual(useful_swaps(START, GOAL), [])


class RunsTest(DriftCase):
    def test_the_straight_run(self):
        for start, goal in ALIKE:
            swaps, end = by_useful_swaps(start, goal)
            run = straight_run(start, goal)
            self.assertIs(type(run), Run)
            self.assertEqual(run.steps(), swaps)
            self.assertEqual(play(start, run), end)
            if len(start) <= 6 or not passes(start, goal):
                self.assertEqual(end, goal)

    def test_the_best_run(self):
        for start, goal in ALIKE:
            swaps, end = by_useful_swaps(start, goal)
            if end != goal:
                swaps = swaps + route(end, goal).steps()
            self.assertIs(type(best_run(start, goal)), Run)
            self.assertEqual(best_run(start, goal).steps(), swaps)
            self.assertEqual(play(start, best_run(start, goal)), goal)

    def test_a_straight_run_that_ends_elsewhere(self):
        self.assertEqual(straight_run(START, GOAL), Run([]))
        self.assertEqual(best_run(START, GOAL), route(START, GOAL))
        start, goal = START + State([9, 8], [8, 9], [8, 9]), GOAL + State.same([8, 9])
        self.assertEqual(str(straight_run(start, goal)), "0.7")
        self.assertEqual(best_run(start, goal), Run.of((0, 7)) + route(play(start, Run.of((0, 7))), goal))
        self.assertEqual(play(start, best_run(start, goal)), goal)

    def test_from_a_state_to_itself(self):
        for state in (EMPTY, SINGLE, CIRCLE, State([2, 1, 3], [1, 2, 3], [1, 3, 2]), TWELVES[2]):
            self.assertEqual((straight_run(state, state), best_run(state, state)), (Run([]), Run([])))

    def test_the_first_useful_swap_at_each_step(self):
        start, goal = State.same([1, 2, 3]), State([3, 2, 1], [1, 2, 3], [1, 2, 3])
        self.assertEqual(str(straight_run(start, goal)), "0.0 0.1 0.0")
        start, goal = State([2, 1], [1, 2], [1, 2]), State([1, 2], [1, 2], [2, 1])
        self.assertEqual(str(straight_run(start, goal)), "0.0 2.0")


class BoundsTest(DriftCase):
    def test_against_the_words(self):
        for start, goal in ALIKE:
            low = sum(words_apart(start, goal))
            if start != goal and not (useful(start, goal) and useful(goal, start)):
                low += 2
            self.assertEqual(bounds(start, goal), (low, len(best_run(start, goal))))

    def test_against_a_search(self):
        far = 0
        for seed, state in enumerate(PAIRS + TRIPLES[::13] + FOURS[:8] + FIVES[:4] + SIXES[:2]):
            start = walked(state, 9, seed)
            for lists, least in list(spread(start).items())[::7]:
                low, high = bounds(start, State(*map(list, lists)))
                self.assertEqual((low, high), (least, least))
                far = max(far, least)
        self.assertGreater(far, 7)

    def test_no_pair_passes(self):
        many = 0
        for start, goal in ALIKE:
            if not passes(start, goal):
                low, high = bounds(start, goal)
                self.assertEqual((low, high), (word_distance(start, goal), word_distance(start, goal)))
                many += len(start) > 6
        self.assertGreater(many, 5)

    def test_a_state_to_itself(self):
        for state in (EMPTY, SINGLE, CIRCLE, TWELVES[3]):
            self.assertEqual(bounds(state, state), (0, 0))
            self.assertIs(type(bounds(state, state)), tuple)

    def test_without_a_useful_swap_at_first(self):
        self.assertEqual(bounds(START, GOAL), (16, len(route(START, GOAL))))
        self.assertEqual(bounds(GOAL, START)[0], 16)

    def test_a_useful_swap_at_one_end_only(self):
        near = walked_to_no_use()
        self.assertEqual((useful(*near) == [], useful(*near[::-1]) == []), (False, True))
        self.assertEqual(bounds(*near)[0], word_distance(*near) + 2)
        self.assertEqual(bounds(*near[::-1])[0], word_distance(*near) + 2)


def walked_to_no_use():
    """A state with a useful swap towards a goal that has none towards the state."""
    for lists in silent_steps(tuple(map(tuple, START.lists()))):
        start = State(*map(list, lists))
        if useful(start, GOAL) and not useful(GOAL, start):
            return start, GOAL
    raise AssertionError("there is no such state")


class IsShortestTest(DriftCase):
    def test_the_best_run_where_it_ends_in_goal_straight(self):
        for start, goal in ALIKE:
            low, high = bounds(start, goal)
            self.assertIs(is_shortest(start, goal, best_run(start, goal)), low == high)
            longer = best_run(start, goal) + Run.of((0, 0), (0, 0))
            self.assertIs(is_shortest(start, goal, longer), False)

    def test_the_documents_run(self):
        self.assertIs(is_shortest(START, GOAL, RUN), True)
        self.assertIs(is_shortest(GOAL, START, -RUN), True)
        self.assertIs(is_shortest(START, GOAL, route(START, GOAL)), False)

    def test_runs_that_are_wrong(self):
        start, goal = State.same([1, 2, 3]), State([2, 1, 3], [1, 2, 3], [1, 2, 3])
        self.assertIs(is_shortest(start, goal, Run.of((0, 0))), True)
        for swaps in ([], [(0, 1)], [(1, 0)], [(3, 0)], [(0, -1)], [(0, 0)] * 3, [(0, 0), (0, 0)]):
            self.assertIs(is_shortest(start, goal, Run(swaps)), False)
        for state in (EMPTY, SINGLE, CIRCLE):
            self.assertIs(is_shortest(state, state, Run([])), True)
            self.assertIs(is_shortest(state, state, Run.of((0, 0))), False)


class CanTakeTest(DriftCase):
    def test_against_all_lengths(self):
        for seed, state in enumerate([EMPTY, SINGLE, CIRCLE] + PAIRS + TRIPLES[::25] + FOURS[:4] + FIVES[:3]):
            for many in (0, 1, 4, 7):
                start, goal = walked(state, 5, seed), walked(state, many, seed + 1)
                lengths = lengths_to(start, goal, 12)
                for count in range(-4, 13):
                    self.assertIs(can_take(start, goal, count), count in lengths)

    def test_counts_that_are_not_known(self):
        low, high = bounds(START, GOAL)
        self.assertLess(low + 2, high)
        for count in range(-20, 60):
            wanted = False
            if count % 2 == 0 and count >= low:
                wanted = True if count >= high else None
            self.assertIs(can_take(START, GOAL, count), wanted)
        self.assertIs(can_take(START, GOAL, 10 ** 30), True)
        self.assertIs(can_take(START, GOAL, 10 ** 30 + 1), False)
        self.assertIs(can_take(START, GOAL, -10 ** 30), False)

    def test_a_state_without_a_silent_swap(self):
        for state in (EMPTY, SINGLE, CIRCLE):
            found = [can_take(state, state, count) for count in range(-2, 5)]
            self.assertEqual(found, [False, False, True, False, False, False, False])

    def test_to_and_fro(self):
        start, goal = State.same([1, 2]), State([1, 2], [2, 1], [1, 2])
        found = [can_take(start, goal, count) for count in range(-1, 6)]
        self.assertEqual(found, [False, False, True, False, True, False, True])
        found = [can_take(start, start, count) for count in range(-2, 5)]
        self.assertEqual(found, [False, False, True, False, True, False, True])


class LeastCostTest(DriftCase):
    PRICES = [(1, 1, 1), (0, 0, 0), (1, 0, 0), (0, 2, 5), (7, 1, 3), (10 ** 20, 1, 0)]

    def test_against_the_words(self):
        for start, goal in ALIKE:
            shares = best_run(start, goal).shares()
            for prices in self.PRICES:
                low = sum(many * price for many, price in zip(words_apart(start, goal), prices))
                high = sum(many * price for many, price in zip(shares, prices))
                self.assertEqual(least_cost(start, goal, prices=prices), (low, high))
                if not passes(start, goal):
                    self.assertEqual(low, high)

    def test_each_swap_costs_one_if_no_prices_are_named(self):
        for start, goal in ALIKE:
            self.assertEqual(least_cost(start, goal), least_cost(start, goal, prices=(1, 1, 1)))
            self.assertEqual(least_cost(start, goal), (word_distance(start, goal), len(best_run(start, goal))))

    def test_the_least_cost_lies_between(self):
        for seed, state in enumerate(PAIRS + TRIPLES[::19] + FOURS[:6]):
            start, goal = walked(state, 9, seed), walked(state, 12, seed + 5)
            for prices in self.PRICES[:5]:
                low, high = least_cost(start, goal, prices=prices)
                self.assertLessEqual(low, cheapest(start, goal, prices))
                self.assertLessEqual(cheapest(start, goal, prices), high)

    def test_prices_of_replicas(self):
        start = State.same([1, 2, 3])
        goal = State([2, 1, 3], [1, 2, 3], [1, 3, 2])
        self.assertEqual(least_cost(start, goal, prices=(5, 70, 900)), (905, 905))
        self.assertEqual(least_cost(start, goal, prices=(0, 70, 0)), (0, 0))
        self.assertIs(type(least_cost(start, goal)), tuple)

    def test_prices_by_keyword_only(self):
        self.assertRaises(TypeError, least_cost, CIRCLE, CIRCLE, (1, 1, 1))


class ErrorsTest(DriftCase):
    ACTIONS = [
        word_distance, passing, useful_swaps, straight_run, best_run, bounds, least_cost,
        lambda start, goal: is_shortest(start, goal, Run([])),
        lambda start, goal: is_shortest(start, goal, Run.of((9, 9))),
        lambda start, goal: can_take(start, goal, -1),
        lambda start, goal: can_take(start, goal, 3),
        lambda start, goal: least_cost(start, goal, prices=(0, 0, 0)),
    ]

    def test_unlike_keys(self):
        for action in self.ACTIONS:
            self.assert_raises(UnlikeKeys, {"key": 3}, action, CIRCLE, TURNED - 3)
            self.assert_raises(UnlikeKeys, {"key": 1}, action, EMPTY, CIRCLE)
            # The two readings differ, too.
            self.assert_raises(UnlikeKeys, {"key": 2}, action, State.same([3, 4, 2]), State.same([4, 3, 7]))

    def test_not_reachable(self):
        for action in self.ACTIONS:
            reason = {"certificate": DealtOtherwise((1, 2, 3))}
            self.assert_raises(NotReachable, reason, action, CIRCLE, TURNED)
            reason = {"certificate": ReadOtherwise((1, 2))}
            self.assert_raises(NotReachable, reason, action, CIRCLE, -CIRCLE)
            self.assert_raises(NotReachable, reason, action, State.same([1, 2]), State.same([2, 1]))

    def test_arguments_stay_as_they_were(self):
        lists = START.lists(), GOAL.lists(), RUN.steps()
        for action in self.ACTIONS:
            action(START, GOAL)
        is_shortest(START, GOAL, RUN)
        self.assertEqual((START.lists(), GOAL.lists(), RUN.steps()), lists)


if __name__ == "__main__":
    unittest.main()
