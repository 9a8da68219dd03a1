"""Point 39: four to seven replicas."""

import random
import unittest
from itertools import combinations, permutations, product

from quorumdrift.errors import AudibleSwap, InvalidState, InvalidSwap, NotReachable, SplitPair, UnknownKey
from quorumdrift.errors import UnknownReplica, UnlikeContents, UnlikeKeys
from quorumdrift.runs import Run
from quorumdrift.states import State
from quorumdrift.widesets import WideSet
from tests.helpers import DriftCase, shuffled, stands_before
from tests.test_lists import WRONG_LISTS


def split_pairs(lists):
    """The tuples (x, y), x < y, at which at least two lists say one thing and at least two the other."""
    found = []
    for x, y in combinations(sorted(lists[0]), 2):
        words = [stands_before(order, x, y) for order in lists]
        if min(words.count(True), words.count(False)) >= 2:
            found.append((x, y))
    return found


def silent(lists):
    """The swaps at which all other lists agree, ascending."""
    found = []
    for replica, order in enumerate(lists):
        others = lists[:replica] + lists[replica + 1:]
        for index, (x, y) in enumerate(zip(order, order[1:])):
            if len({stands_before(other, x, y) for other in others}) == 1:
                found.append((replica, index))
    return found


def swapped(lists, swap):
    """The lists after a swap, silent or not."""
    replica, index = swap
    order = lists[replica]
    turned = order[:index] + [order[index + 1], order[index]] + order[index + 2:]
    return lists[:replica] + [turned] + lists[replica + 1:]


def common_order(lists):
    """The list that has each pair as all lists but at most one have it, found among all lists of few keys."""
    found = []
    for order in permutations(lists[0]):
        pairs = list(combinations(order, 2))
        if all([stands_before(one, x, y) for one in lists].count(True) >= len(lists) - 1 for x, y in pairs):
            found.append(list(order))
    assert len(found) == 1
    return found[0]


def walked(keys, many, seed):
    """Lists that this many silent swaps make of equal ones; the seed decides."""
    chance = random.Random(seed)
    lists = [shuffled(keys, seed)] * (4 + seed % 4)
    for _ in range(many):
        lists = swapped(lists, chance.choice(silent(lists)))
    return lists


ORDERS = [list(order) for order in permutations([5, 1, 30])]
QUADS = [list(lists) for lists in product(ORDERS, repeat=4)]
SOUND = [lists for lists in QUADS if not split_pairs(lists)]
WALKED = [walked([7, 0, 9999, 12][:2 + seed % 3], 3 + seed, seed) for seed in range(24)]
LARGE = [walked(list(range(12)), 150, seed) for seed in range(4)]
SETS = SOUND[::3] + WALKED + LARGE


class CreatedTest(DriftCase):
    def test_lists_and_keys(self):
        for lists in SETS:
            found = WideSet(*lists)
            self.assertEqual((found.lists(), found.all_keys()), (lists, sorted(lists[0])))
            for replica, order in enumerate(lists):
                self.assertEqual(found.list_of(replica), order)
            for replica in (-1, -10000, len(lists), len(lists) + 1, 10000):
                self.assert_raises(UnknownReplica, {"replica": replica}, found.list_of, replica)

    def test_how_many_lists(self):
        for many in (0, 1, 2, 3, 8, 9, 20):
            for order in ([], [1], [2, 1, 3], [1, 1], [-1]):
                self.assert_raises(InvalidState, {"replica": many}, WideSet, *[order] * many)
        for many in (4, 5, 6, 7):
            for order in ([], [1], [2, 1, 3], shuffled(range(12), 1)):
                self.assertEqual(WideSet(*[order] * many).lists(), [order] * many)

    def test_wrong_lists(self):
        for many in (4, 5, 7):
            for wrong, _ in WRONG_LISTS:
                for replica in range(many):
                    lists = [sorted(set(wrong))[:12] for _ in range(many)]
                    if any(key < 0 or key > 9999 for key in lists[0]):
                        lists = [[1, 2]] * many
                    lists[replica] = wrong
                    self.assert_raises(InvalidState, {"replica": replica}, WideSet, *lists)
                    self.assert_raises(InvalidState, {"replica": 0}, WideSet, *[wrong] * many)

    def test_unlike_keys(self):
        for other in ([1, 2], [1, 2, 3, 4], [1, 2, 4], [], [1, 2, 2]):
            for replica in range(1, 5):
                lists = [[1, 2, 3]] * 5
                lists[replica] = other
                self.assert_raises(InvalidState, {"replica": replica}, WideSet, *lists)
            self.assert_raises(InvalidState, {"replica": 1 if other != [1, 2, 2] else 0}, WideSet, other, *[[1, 2, 3]] * 4)
        # Ahead of pairs that are split.
        lists = [[1, 2], [1, 2], [2, 1], [2, 1], [1]]
        self.assert_raises(InvalidState, {"replica": 4}, WideSet, *lists)

    def test_split_pairs(self):
        split = 0
        for lists in QUADS:
            pairs = split_pairs(lists)
            if pairs:
                self.assert_raises(SplitPair, {"pair": pairs[0]}, WideSet, *lists)
                split += 1
            else:
                self.assertEqual(WideSet(*lists).lists(), lists)
        self.assertGreater(split, 500)
        for many in (5, 6, 7):
            for turned in range(many + 1):
                lists = [[9, 3]] * turned + [[3, 9]] * (many - turned)
                if min(turned, many - turned) < 2:
                    self.assertEqual(WideSet(*lists).lists(), lists)
                else:
                    self.assert_raises(SplitPair, {"pair": (3, 9)}, WideSet, *lists)

    def test_lists_are_copied(self):
        lists = [[1, 2, 3] for _ in range(5)]
        found = WideSet(*lists)
        lists[0].reverse()
        lists[1].append(4)
        found.lists()[2].clear()
        for result in (found.lists(), found.list_of(0), found.all_keys(), found.order(), found.silent_swaps()):
            result.clear()
        self.assertEqual(found, WideSet(*[[1, 2, 3]] * 5))
        self.assertEqual(found.silent_swaps(), [(replica, index) for replica in range(5) for index in (0, 1)])


class WordsTest(DriftCase):
    def test_the_one_list(self):
        for lists in SOUND + WALKED:
            self.assertEqual(WideSet(*lists).order(), common_order(lists))
        for seed, lists in enumerate(LARGE):
            self.assertEqual(WideSet(*lists).order(), shuffled(range(12), seed))

    def test_dissenters(self):
        counts = {}
        for lists in SETS:
            found = WideSet(*lists)
            order = found.order()
            for x, y in product(lists[0], repeat=2):
                against = [
                    replica for replica, one in enumerate(lists)
                    if x != y and stands_before(one, x, y) != stands_before(order, x, y)
                ]
                self.assertEqual(found.dissenter(x, y), against[0] if against else None)
                counts[len(against)] = counts.get(len(against), 0) + 1
        self.assertEqual(sorted(counts), [0, 1])

    def test_unknown_keys(self):
        found = WideSet(*[[1, 2, 3]] * 4)
        for wrong in (0, 4, -1, 10000):
            self.assert_raises(UnknownKey, {"key": wrong}, found.dissenter, wrong, 1)
            self.assert_raises(UnknownKey, {"key": wrong}, found.dissenter, 1, wrong)
            self.assert_raises(UnknownKey, {"key": wrong}, found.dissenter, wrong, 77)
            self.assert_raises(UnknownKey, {"key": wrong}, found.dissenter, wrong, wrong)

    def test_silent_swaps(self):
        for lists in SETS:
            self.assertEqual(WideSet(*lists).silent_swaps(), silent(lists))
        self.assertEqual(WideSet([], [], [], []).silent_swaps(), [])
        self.assertEqual(WideSet([4], [4], [4], [4]).silent_swaps(), [])

    def test_equal(self):
        for one, other in product(SOUND[::9] + WALKED[::4], repeat=2):
            self.assertIs(WideSet(*one) == WideSet(*other), one == other)
            self.assertIs(WideSet(*one) != WideSet(*other), one != other)
        self.assertIs(WideSet([], [], [], []) == WideSet([], [], [], [], []), False)
        for other in (None, 0, [], [[], [], [], []], State([], [], [])):
            self.assertIs(WideSet([], [], [], []) == other, False)
            self.assertIs(WideSet([], [], [], []) != other, True)


class PlayedTest(DriftCase):
    def test_each_kind_of_swap(self):
        counts = {"silent": 0, "audible": 0, "invalid": 0}
        for lists in SOUND[::11] + WALKED + LARGE:
            found = WideSet(*lists)
            size, many = len(lists[0]), len(lists)
            prefix = [silent(lists)[-1]] if silent(lists) else []
            now = swapped(lists, prefix[0]) if prefix else lists
            step = {"step": len(prefix)}
            indexes = list(range(size - 1)) + [-1, -2, -size, size - 1, size, 10000, -10000]
            for swap in product(list(range(many)) + [-1, -2, many, many + 1, 10000], indexes):
                run = Run(prefix + [swap, (0, -5)])
                if not (0 <= swap[0] < many and 0 <= swap[1] <= size - 2):
                    counts["invalid"] += 1
                    self.assert_raises(InvalidSwap, step, found.played, run)
                elif swap not in silent(now):
                    counts["audible"] += 1
                    self.assert_raises(AudibleSwap, step, found.played, run)
                else:
                    counts["silent"] += 1
                    self.assert_raises(InvalidSwap, {"step": len(prefix) + 1}, found.played, run)
                    self.assertEqual(found.played(Run(prefix + [swap])), WideSet(*swapped(now, swap)))
            self.assertEqual(found.lists(), lists)
        self.assertGreater(min(counts.values()), 150)

    def test_the_empty_run(self):
        for lists in SETS[::5]:
            self.assertEqual(WideSet(*lists).played(Run([])), WideSet(*lists))


class RouteTest(DriftCase):
    def test_home_runs(self):
        steps = 0
        for lists in SETS:
            order = common_order(lists) if len(lists[0]) < 6 else WideSet(*lists).order()
            now, wanted = lists, []
            while True:
                choices = [
                    (replica, index) for replica, one in enumerate(now) for index in range(len(one) - 1)
                    if stands_before(order, one[index + 1], one[index])
                ]
                if not choices:
                    break
                self.assertIn(choices[0], silent(now))
                wanted.append(choices[0])
                now = swapped(now, choices[0])
            run = WideSet(*lists).home_run()
            self.assertIs(type(run), Run)
            self.assertEqual(run.steps(), wanted)
            self.assertEqual(WideSet(*lists).played(run), WideSet(*[order] * len(lists)))
            steps += len(wanted)
        self.assertGreater(steps, 200)

    def test_comes_to_against_a_search(self):
        counts = {True: 0, False: 0}
        for start in SOUND[::40]:
            reached, border = [start], [start]
            while border:
                beyond = [swapped(lists, swap) for lists in border for swap in silent(lists)]
                border = [lists for at, lists in enumerate(beyond) if lists not in reached and lists not in beyond[:at]]
                reached += border
            for goal in SOUND[::3]:
                wanted = goal in reached
                counts[wanted] += 1
                self.assertIs(WideSet(*start).comes_to(WideSet(*goal)), wanted)
        self.assertGreater(min(counts.values()), 50)

    def test_routes(self):
        routed = 0
        for start, goal in product(SOUND[::15], SOUND[::12]):
            one, other = WideSet(*start), WideSet(*goal)
            first, second = common_order(start), common_order(goal)
            if first == second:
                run = one.route_to(other)
                self.assertIs(type(run), Run)
                self.assertEqual(run.steps(), one.home_run().steps() + other.home_run().steps()[::-1])
                self.assertEqual(one.played(run), other)
                routed += 1
            else:
                apart = [
                    (x, y) for x, y in combinations(sorted(first), 2)
                    if stands_before(first, x, y) != stands_before(second, x, y)
                ]
                self.assert_raises(NotReachable, {"certificate": apart[0]}, one.route_to, other)
        self.assertGreater(routed, 50)

    def test_routes_of_twelve_keys(self):
        for seed, lists in enumerate(LARGE):
            start, goal = WideSet(*lists), WideSet(*[shuffled(range(12), seed)] * len(lists))
            self.assertIs(start.comes_to(goal), True)
            self.assertEqual(start.played(start.route_to(goal)), goal)
            self.assertEqual(goal.played(goal.route_to(start)), start)
            self.assertEqual(start.route_to(start), start.home_run() + (-start.home_run()))
            backward = WideSet(*[shuffled(range(12), seed)[::-1]] * len(lists))
            self.assertIs(start.comes_to(backward), False)
            self.assert_raises(NotReachable, {"certificate": (0, 1)}, start.route_to, backward)

    def test_unlike_numbers_of_replicas_ahead_of_unlike_keys(self):
        for many, others in permutations((4, 5, 6, 7), 2):
            for first, second in (([1, 2], [1, 2]), ([1, 2], [2, 1]), ([1, 2], [1, 3]), ([], [])):
                one, other = WideSet(*[first] * many), WideSet(*[second] * others)
                self.assert_raises(UnlikeContents, {}, one.comes_to, other)
                self.assert_raises(UnlikeContents, {}, one.route_to, other)

    def test_unlike_keys(self):
        for many in (4, 7):
            for first, second, key in (([1, 2], [1, 3], 2), ([4, 7], [7], 4), ([], [8, 5, 6], 5), ([3, 2, 1], [3, 2, 0], 0)):
                one, other = WideSet(*[first] * many), WideSet(*[second] * many)
                for action in (one.comes_to, one.route_to):
                    self.assert_raises(UnlikeKeys, {"key": key}, action, other)
                self.assert_raises(UnlikeKeys, {"key": key}, other.comes_to, one)
                self.assert_raises(UnlikeKeys, {"key": key}, other.route_to, one)


if __name__ == "__main__":
    unittest.main()
