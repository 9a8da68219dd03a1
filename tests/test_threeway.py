"""Points 26 and 27: three-way merges and the edits that leave them as they are."""

import unittest
from itertools import permutations, product

from quorumdrift.certificates import DealtOtherwise, ReadOtherwise
from quorumdrift.errors import AudibleSwap, InvalidSide, InvalidState, InvalidSwap, NotReachable, UnknownKey, UnlikeKeys
from quorumdrift.reach import route
from quorumdrift.readings import Reading
from quorumdrift.states import State
from quorumdrift.threeway import ThreeWay
from tests.helpers import DriftCase, shuffled, stands_before
from tests.oracles import spread, state_of, walked
from tests.test_forced import settled_by_swaps
from tests.test_lists import WRONG_LISTS

NAMES = ("old", "mine", "yours")
WRONG_NAMES = ("", "Old", "theirs", "mine ", "both", "nobody", "0")
EXAMPLE = ([1, 2, 3, 4], [2, 1, 3, 4], [1, 3, 2, 4])
NO_KEYS = ([], [], [])


def triples():
    """Three lists of the same keys each: near to each other and far from each other."""
    found = [NO_KEYS, ([7], [7], [7]), EXAMPLE]
    found += [tuple(map(list, orders)) for orders in list(product(permutations([5, 1, 30]), repeat=3))[::7]]
    for size in (4, 5):
        found += [tuple(state_of(size, seed).lists()) for seed in range(40, 60)]
    found += [tuple(state_of(12, seed).lists()) for seed in (3, 8)]
    return found


TRIPLES = triples()


def merged_pairs(old, mine, yours):
    """The pairs of the merge: as in old if both parties kept it, otherwise the other way about."""
    found = set()
    for x, y in permutations(old, 2):
        before = stands_before(old, x, y)
        kept = stands_before(mine, x, y) == before and stands_before(yours, x, y) == before
        if before == kept:
            found.add((x, y))
    return found


def sides_of(three):
    """The three lists of a ThreeWay."""
    return [three.side(name) for name in NAMES]


def edited(orders, name, index):
    """The three lists after an edit, silent or not."""
    found = [list(order) for order in orders]
    order = found[NAMES.index(name)]
    order[index], order[index + 1] = order[index + 1], order[index]
    return found


def silent_by_words(orders):
    """The edits that leave the merge as it is: those of old first, then mine, then yours."""
    return [
        (name, index) for name in NAMES for index in range(len(orders[0]) - 1)
        if merged_pairs(*edited(orders, name, index)) == merged_pairs(*orders)
    ]


def owner(orders, x, y):
    """Who has turned the pair against old, by the document's words."""
    old, mine, yours = [x != y and stands_before(order, x, y) for order in orders]
    return {(False, False): "nobody", (True, False): "mine", (False, True): "yours", (True, True): "both"}[
        (mine != old, yours != old)
    ]


class SidesTest(DriftCase):
    def test_sides(self):
        for orders in TRIPLES:
            three = ThreeWay(*orders)
            self.assertEqual(sides_of(three), list(orders))
            for name in WRONG_NAMES:
                self.assert_raises(InvalidSide, {"side": name}, three.side, name)

    def test_state(self):
        for old, mine, yours in TRIPLES:
            state = ThreeWay(old, mine, yours).state()
            self.assertIs(type(state), State)
            self.assertEqual(state.lists(), [old[::-1], mine, yours])

    def test_invalid_states(self):
        for order, place in WRONG_LISTS:
            self.assert_raises(InvalidState, {"replica": 0}, ThreeWay, order, [1, 2], [1, 2])
            self.assert_raises(InvalidState, {"replica": 1}, ThreeWay, [1, 2], order, [1, 2])
            self.assert_raises(InvalidState, {"replica": 1}, ThreeWay, [1, 2], order, order)
            self.assert_raises(InvalidState, {"replica": 2}, ThreeWay, [1, 2], [2, 1], order)
        self.assert_raises(InvalidState, {"replica": 1}, ThreeWay, [1, 2], [1], [1, 2])
        self.assert_raises(InvalidState, {"replica": 1}, ThreeWay, [1, 2], [1, 3], [1, 4])
        self.assert_raises(InvalidState, {"replica": 2}, ThreeWay, [1, 2], [2, 1], [1, 2, 3])
        self.assert_raises(InvalidState, {"replica": 2}, ThreeWay, [], [], [0])

    def test_lists_are_copied(self):
        orders = [list(order) for order in EXAMPLE]
        three = ThreeWay(*orders)
        for order in orders:
            order.reverse()
            order.append(9)
        for name in NAMES:
            three.side(name).clear()
        three.state().lists()[0].clear()
        three.silent_edits().clear()
        three.conflicts().clear()
        self.assertEqual(sides_of(three), list(EXAMPLE))
        self.assertEqual(three, ThreeWay(*EXAMPLE))


class MergedTest(DriftCase):
    def test_against_the_words(self):
        for orders in TRIPLES:
            merged = ThreeWay(*orders).merged()
            self.assertIs(type(merged), Reading)
            self.assertEqual(merged.all_keys(), sorted(orders[0]))
            self.assertEqual(merged.pairs(), sorted(merged_pairs(*orders)))

    def test_order(self):
        with_a_cycle = 0
        for orders in TRIPLES:
            pairs = merged_pairs(*orders)
            fitting = [
                list(order) for order in (permutations(orders[0]) if len(orders[0]) < 6 else [])
                if all(stands_before(order, x, y) for x, y in pairs)
            ]
            if len(orders[0]) < 6:
                self.assertEqual(ThreeWay(*orders).order(), fitting[0] if fitting else None)
                with_a_cycle += not fitting
        self.assertGreater(with_a_cycle, 3)

    def test_merges_without_a_cycle(self):
        old = shuffled(range(12), 1)
        new = shuffled(range(12), 2)
        self.assertEqual(ThreeWay(old, old, old).order(), old)
        self.assertEqual(ThreeWay(old, new, old).order(), new)
        self.assertEqual(ThreeWay(old, old, new).order(), new)
        self.assertEqual(ThreeWay(old, new, new).order(), new)
        self.assertEqual(ThreeWay([1, 2, 3, 4], [2, 1, 3, 4], [1, 2, 4, 3]).order(), [2, 1, 4, 3])
        self.assertIsNone(ThreeWay(*EXAMPLE).order())
        self.assertEqual(ThreeWay(*NO_KEYS).order(), [])


class ChangedByTest(DriftCase):
    def test_against_the_words(self):
        found = set()
        for orders in TRIPLES:
            for x, y in product(orders[0], repeat=2):
                self.assertEqual(ThreeWay(*orders).changed_by(x, y), owner(orders, x, y))
                found.add(owner(orders, x, y))
        self.assertEqual(found, {"nobody", "mine", "yours", "both"})

    def test_each_kind(self):
        three = ThreeWay([1, 2, 3, 4], [2, 1, 4, 3], [1, 4, 2, 3])
        self.assertEqual(three.changed_by(1, 3), "nobody")
        self.assertEqual(three.changed_by(1, 2), "mine")
        self.assertEqual(three.changed_by(2, 1), "mine")
        self.assertEqual(three.changed_by(2, 4), "yours")
        self.assertEqual(three.changed_by(4, 3), "both")
        for key in (1, 2, 3, 4):
            self.assertEqual(three.changed_by(key, key), "nobody")

    def test_unknown_keys(self):
        three = ThreeWay(*EXAMPLE)
        for x, y, key in ((9, 1, 9), (1, 9, 9), (9, 8, 9), (8, 9, 8), (9, 9, 9), (-1, 3, -1), (3, 10000, 10000)):
            self.assert_raises(UnknownKey, {"key": key}, three.changed_by, x, y)
        self.assert_raises(UnknownKey, {"key": 1}, ThreeWay(*NO_KEYS).changed_by, 1, 1)


class ConflictsTest(DriftCase):
    def test_against_the_words(self):
        many = 0
        for orders in TRIPLES:
            three = ThreeWay(*orders)
            pairs = merged_pairs(*orders)
            cycles = [
                (x, y, z) for x, y, z in permutations(sorted(orders[0]), 3)
                if x == min(x, y, z) and {(x, y), (y, z), (z, x)} <= pairs
            ]
            wanted = [
                ((x, y, z), (owner(orders, x, y), owner(orders, y, z), owner(orders, z, x))) for x, y, z in cycles
            ]
            self.assertEqual(three.conflicts(), wanted)
            for _, owners in three.conflicts():
                self.assertEqual(sorted(owners), ["mine", "nobody", "yours"])
                many += 1
        self.assertGreater(many, 20)

    def test_the_example(self):
        found = ThreeWay(*EXAMPLE).conflicts()
        self.assertEqual(found, [((1, 3, 2), ("nobody", "yours", "mine"))])
        self.assertEqual([type(found), type(found[0]), type(found[0][0]), type(found[0][1])], [list] + [tuple] * 3)
        self.assertEqual(ThreeWay(*NO_KEYS).conflicts(), [])


class EditTest(DriftCase):
    def test_silent_edits_against_the_words(self):
        sides = set()
        for orders in TRIPLES:
            edits = ThreeWay(*orders).silent_edits()
            self.assertEqual(edits, silent_by_words(orders))
            sides |= {side for side, _ in edits}
        self.assertEqual(sides, set(NAMES))

    def test_their_order(self):
        three = ThreeWay([1, 2, 3, 4], [2, 1, 3, 4], [1, 2, 4, 3])
        self.assertEqual(three.silent_edits(), [("old", 1), ("mine", 2), ("yours", 0)])
        three = ThreeWay([1, 2, 3, 4], [1, 2, 3, 4], [2, 1, 3, 4])
        self.assertEqual(three.silent_edits(), [("old", 1), ("old", 2), ("mine", 0)])
        # At keys that both parties kept, old alone stands against the others: it may turn, they may not.
        self.assertEqual(ThreeWay([1, 2], [1, 2], [1, 2]).silent_edits(), [("old", 0)])
        self.assertEqual(ThreeWay(*NO_KEYS).silent_edits(), [])
        self.assertIs(type(three.silent_edits()[0]), tuple)

    def test_edit(self):
        audible = 0
        for orders in TRIPLES:
            three = ThreeWay(*orders)
            silent = silent_by_words(orders)
            for name in NAMES:
                for index in range(len(orders[0]) - 1):
                    if (name, index) in silent:
                        found = three.edit(name, index)
                        self.assertIs(type(found), ThreeWay)
                        self.assertEqual(sides_of(found), edited(orders, name, index))
                        self.assertEqual(found.merged(), three.merged())
                    else:
                        self.assert_raises(AudibleSwap, {"step": 0}, three.edit, name, index)
                        audible += 1
                for index in (-10000, -1, len(orders[0]) - 1, len(orders[0]), 10000):
                    if index not in range(len(orders[0]) - 1):
                        self.assert_raises(InvalidSwap, {"step": 0}, three.edit, name, index)
            self.assertEqual(sides_of(three), list(orders))
        self.assertGreater(audible, 50)

    def test_wrong_sides_come_first(self):
        for name in WRONG_NAMES:
            for index in (-1, 0, 1, 3, 77):
                self.assert_raises(InvalidSide, {"side": name}, ThreeWay(*EXAMPLE).edit, name, index)


class SettledTest(DriftCase):
    def test_its_state_is_settled(self):
        for orders in TRIPLES:
            three = ThreeWay(*orders)
            found = three.settled()
            self.assertIs(type(found), ThreeWay)
            self.assertEqual(found.state(), settled_by_swaps(three.state()))
            self.assertEqual(found.merged(), three.merged())
            self.assertEqual(found.settled(), found)

    def test_a_merge_without_a_cycle(self):
        found = ThreeWay([1, 2, 3], [2, 1, 3], [1, 2, 3]).settled()
        self.assertEqual(sides_of(found), [[3, 1, 2], [2, 1, 3], [2, 1, 3]])


def three_of(lists):
    """The ThreeWay whose state has these lists."""
    return ThreeWay(list(lists[0])[::-1], list(lists[1]), list(lists[2]))


class SameMergeTest(DriftCase):
    def test_against_a_search(self):
        counts = {True: 0, False: 0}
        for orders in TRIPLES[3:20] + TRIPLES[34:38]:
            three = ThreeWay(*orders)
            reached = spread(three.state())
            others = [ThreeWay(*other) for other in TRIPLES if sorted(other[0]) == sorted(orders[0])]
            for other in others + [three_of(lists) for lists in list(reached)[::9]]:
                wanted = tuple(map(tuple, other.state().lists())) in reached
                self.assertIs(three.same_merge(other), wanted)
                counts[wanted] += 1
        self.assertGreater(min(counts.values()), 50)

    def test_equal_merges_that_are_dealt_otherwise(self):
        three = ThreeWay([3, 2, 1], [2, 3, 1], [3, 1, 2])
        other = ThreeWay([1, 3, 2], [1, 2, 3], [3, 1, 2])
        self.assertEqual(three.merged(), other.merged())
        self.assertEqual(three.merged().cycles(), [(1, 2, 3)])
        self.assertIs(three.same_merge(other), False)
        reason = {"certificate": DealtOtherwise((1, 2, 3))}
        self.assert_raises(NotReachable, reason, three.edits_to, other)

    def test_edits_to(self):
        sides = set()
        for seed, orders in enumerate(TRIPLES):
            three = ThreeWay(*orders)
            for many in (0, 4, 15):
                other = three_of(walked(three.state(), many, seed).lists())
                edits = three.edits_to(other)
                size = len(orders[0])
                wanted = [
                    (NAMES[replica], size - 2 - index if replica == 0 else index)
                    for replica, index in route(three.state(), other.state()).steps()
                ]
                self.assertEqual(edits, wanted)
                self.assertTrue(type(edits) is list and all(type(edit) is tuple for edit in edits))
                now = three
                for edit in edits:
                    now = now.edit(*edit)
                self.assertEqual(now, other)
                self.assertIs(three.same_merge(other), True)
                sides |= {side for side, _ in edits}
        self.assertEqual(sides, set(NAMES))

    def test_the_index_of_an_edit_of_old(self):
        three = ThreeWay([4, 3, 2, 1], [1, 2, 3, 4], [1, 2, 3, 4])
        self.assertEqual(three.edits_to(ThreeWay([4, 3, 1, 2], [1, 2, 3, 4], [1, 2, 3, 4])), [("old", 2)])
        self.assertEqual(three.edits_to(ThreeWay([3, 4, 2, 1], [1, 2, 3, 4], [1, 2, 3, 4])), [("old", 0)])
        self.assertEqual(three.edits_to(ThreeWay([4, 3, 2, 1], [1, 2, 4, 3], [1, 2, 3, 4])), [("mine", 2)])
        self.assertEqual(three.edits_to(ThreeWay([4, 3, 2, 1], [1, 2, 3, 4], [2, 1, 3, 4])), [("yours", 0)])
        self.assertEqual(three.edits_to(three), [])

    def test_not_reachable(self):
        three, other = ThreeWay([1, 2, 3], [1, 2, 3], [1, 2, 3]), ThreeWay([1, 2, 3], [1, 3, 2], [1, 2, 3])
        self.assertIs(three.same_merge(other), False)
        self.assert_raises(NotReachable, {"certificate": ReadOtherwise((2, 3))}, three.edits_to, other)

    def test_unlike_keys(self):
        cases = [(NO_KEYS, EXAMPLE, 1), (EXAMPLE, ([2, 1], [1, 2], [2, 1]), 3), (([5, 7],) * 3, ([7, 6],) * 3, 5)]
        for orders, other, key in cases:
            for first, second in ((orders, other), (other, orders)):
                three = ThreeWay(*first)
                self.assert_raises(UnlikeKeys, {"key": key}, three.same_merge, ThreeWay(*second))
                self.assert_raises(UnlikeKeys, {"key": key}, three.edits_to, ThreeWay(*second))


class ComparisonTest(DriftCase):
    def test_flipped(self):
        for old, mine, yours in TRIPLES:
            three = ThreeWay(old, mine, yours)
            found = three.flipped()
            self.assertIs(type(found), ThreeWay)
            self.assertEqual(sides_of(found), [old, yours, mine])
            self.assertEqual(found.merged(), three.merged())
            self.assertEqual(found.flipped(), three)
            self.assertEqual(sides_of(three), [old, mine, yours])

    def test_equal(self):
        for place, orders in enumerate(TRIPLES[:30]):
            for other_place, other in enumerate(TRIPLES[:30]):
                self.assertIs(ThreeWay(*orders) == ThreeWay(*other), orders == other)
                self.assertIs(ThreeWay(*orders) != ThreeWay(*other), orders != other)
        for other in (ThreeWay([1, 2], [1, 2], [2, 1]), ThreeWay([2, 1], [1, 2], [1, 2]), ThreeWay(*NO_KEYS)):
            self.assertIs(ThreeWay([1, 2], [2, 1], [1, 2]) == other, False)
        for other in (State(*EXAMPLE), State.same([]), None, "", 0, list(EXAMPLE)):
            self.assertIs(ThreeWay(*EXAMPLE) == other, False)
            self.assertIs(ThreeWay(*EXAMPLE) != other, True)


if __name__ == "__main__":
    unittest.main()
