"""Point 28: how the regions of a merge that has cycles are put in order."""

import unittest

from quorumdrift.errors import InvalidList, InvalidSide, UnlikeKeys
from quorumdrift.policies import Backward, Policy, PreferSide, regions, resolve, violations
from quorumdrift.threeway import ThreeWay
from tests.helpers import DriftCase, shuffled
from tests.test_lists import WRONG_LISTS
from tests.test_threeway import EXAMPLE, NO_KEYS, TRIPLES, WRONG_NAMES, merged_pairs

# Three regions: 9 and 8 alone, and between them 1, 2, 3 in a circle.
CIRCLE = ([9, 3, 2, 1, 8], [9, 2, 3, 1, 8], [9, 3, 1, 2, 8])


def parts_of(orders):
    """The keys between which merged pairs lead to and fro, the parts in their order."""
    pairs = merged_pairs(*orders)
    reached = {key: {key} for key in orders[0]}
    for _ in orders[0]:
        for x, y in pairs:
            reached[x] |= reached[y]
    parts = []
    for key in sorted(orders[0], key=lambda key: (-len(reached[key]), key)):
        if not any(key in part for part in parts):
            parts.append(sorted(other for other in reached[key] if key in reached[other]))
    return parts


class Odd(Policy):
    """A policy of the test's own: notes what it is called with, and puts some key first."""

    def __init__(self, first):
        self.first = first
        self.calls = []

    def __call__(self, three, region):
        self.calls.append((three, list(region)))
        return [key for key in region if key == self.first] + [key for key in region if key != self.first]

    def label(self):
        return "odd"


class PolicyTest(DriftCase):
    def test_classes(self):
        self.assertEqual(Policy.__bases__, (object,))
        self.assertEqual((PreferSide.__bases__, Backward.__bases__), ((Policy,), (Policy,)))

    def test_ascending(self):
        three = ThreeWay(*CIRCLE)
        for region in ([3, 1, 2], [], [8], [9, 1, 8, 3, 2]):
            before = list(region)
            found = Policy()(three, region)
            self.assertEqual((found, region), (sorted(before), before))
            self.assertIs(type(found), list)
            self.assertIsNot(found, region)

    def test_as_in_a_side(self):
        three = ThreeWay(*CIRCLE)
        for name, wanted in (("old", [3, 2, 1]), ("mine", [2, 3, 1]), ("yours", [3, 1, 2])):
            region = [1, 2, 3]
            found = PreferSide(name)(three, region)
            self.assertEqual((found, region), (wanted, [1, 2, 3]))
            self.assertEqual(PreferSide(name)(three, [8, 9]), [9, 8])
            self.assertEqual(PreferSide(name)(three, []), [])
            found.clear()
            self.assertEqual(three, ThreeWay(*CIRCLE))

    def test_backward(self):
        three = ThreeWay(*CIRCLE)
        for inner in (Policy(), PreferSide("old"), PreferSide("mine"), Backward(PreferSide("yours")), Odd(2)):
            region = [1, 2, 3]
            wanted = inner(three, [1, 2, 3])[::-1]
            self.assertEqual((Backward(inner)(three, region), region), (wanted, [1, 2, 3]))
            self.assertEqual(Backward(Backward(inner))(three, region), wanted[::-1])
        self.assertEqual(Backward(PreferSide("mine"))(three, [1, 2, 3]), [1, 3, 2])

    def test_labels(self):
        self.assertEqual(Policy().label(), "ascending")
        for name in ("old", "mine", "yours"):
            self.assertEqual(PreferSide(name).label(), "ascending but as in " + name)
        self.assertEqual(Backward(Policy()).label(), "ascending but backward of ascending")
        wanted = "ascending but backward of ascending but as in yours"
        self.assertEqual(Backward(PreferSide("yours")).label(), wanted)
        wanted = "ascending but backward of ascending but backward of ascending but as in old"
        self.assertEqual(Backward(Backward(PreferSide("old"))).label(), wanted)
        self.assertEqual(Backward(Odd(1)).label(), "ascending but backward of odd")

    def test_wrong_sides(self):
        for name in WRONG_NAMES:
            self.assert_raises(InvalidSide, {"side": name}, PreferSide, name)


class RegionsTest(DriftCase):
    def test_against_the_words(self):
        sizes = set()
        for orders in TRIPLES:
            found = regions(ThreeWay(*orders))
            self.assertEqual(found, parts_of(orders))
            sizes |= {len(region) for region in found}
        self.assertTrue({1, 3, 4} <= sizes)

    def test_some_merges(self):
        self.assertEqual(regions(ThreeWay(*CIRCLE)), [[9], [1, 2, 3], [8]])
        self.assertEqual(regions(ThreeWay(*EXAMPLE)), [[1, 2, 3], [4]])
        self.assertEqual(regions(ThreeWay([1, 2], [2, 1], [1, 2])), [[2], [1]])
        self.assertEqual(regions(ThreeWay(*NO_KEYS)), [])
        three = ThreeWay(*CIRCLE)
        regions(three)[1].clear()
        self.assertEqual(regions(three), [[9], [1, 2, 3], [8]])


class ResolveTest(DriftCase):
    def test_each_policy(self):
        several = 0
        for orders in TRIPLES:
            three = ThreeWay(*orders)
            own = Odd(max(orders[0], default=0))
            for policy in (Policy(), PreferSide("old"), PreferSide("yours"), Backward(PreferSide("mine")), own):
                wanted = []
                for region in parts_of(orders):
                    wanted += region if len(region) == 1 else policy(three, list(region))
                    several += len(region) > 1
                found = resolve(three, policy=policy)
                self.assertIs(type(found), list)
                self.assertEqual(found, wanted)
        self.assertGreater(several, 50)

    def test_as_in_mine_if_none_is_named(self):
        for orders in TRIPLES:
            three = ThreeWay(*orders)
            wanted = [key for region in parts_of(orders) for key in orders[1] if key in region]
            self.assertEqual(resolve(three), wanted)
            self.assertEqual(resolve(three, policy=None), wanted)
        self.assertEqual(resolve(ThreeWay(*EXAMPLE)), [2, 1, 3, 4])
        self.assertEqual(resolve(ThreeWay(*NO_KEYS)), [])

    def test_a_policy_of_the_test_s_own(self):
        policy = Odd(2)
        three = ThreeWay(*CIRCLE)
        self.assertEqual(resolve(three, policy=policy), [9, 2, 1, 3, 8])
        # Regions of one key do not ask the policy.
        self.assertEqual(policy.calls, [(three, [1, 2, 3])])
        self.assertEqual(resolve(three, policy=Backward(policy)), [9, 3, 1, 2, 8])

    def test_what_a_policy_returns_is_not_checked(self):
        three = ThreeWay(*CIRCLE)
        for keys in ([], [7, 7], [3], [10000]):
            self.assertEqual(resolve(three, policy=lambda three, region, keys=keys: list(keys)), [9, *keys, 8])

    def test_the_result_is_new(self):
        kept = [1, 3, 2]
        three = ThreeWay([3, 2, 1], [2, 3, 1], [3, 1, 2])
        found = resolve(three, policy=lambda three, region: kept)
        found.clear()
        self.assertEqual(kept, [1, 3, 2])
        self.assertEqual(three, ThreeWay([3, 2, 1], [2, 3, 1], [3, 1, 2]))

    def test_a_merge_without_a_cycle(self):
        old, new = shuffled(range(12), 1), shuffled(range(12), 2)
        policy = Odd(3)
        self.assertEqual(resolve(ThreeWay(old, new, old), policy=policy), new)
        self.assertEqual(policy.calls, [])

    def test_policy_by_keyword_only(self):
        self.assertRaises(TypeError, resolve, ThreeWay(*EXAMPLE), Policy())


class ViolationsTest(DriftCase):
    def test_against_the_words(self):
        many = 0
        for seed, orders in enumerate(TRIPLES):
            three = ThreeWay(*orders)
            for order in (shuffled(orders[0], seed), resolve(three), orders[2]):
                wanted = sorted((x, y) for x, y in merged_pairs(*orders) if order.index(y) < order.index(x))
                self.assertEqual(violations(three, order), wanted)
                many += len(wanted)
        self.assertGreater(many, 100)

    def test_the_example(self):
        found = violations(ThreeWay(*EXAMPLE), [2, 1, 3, 4])
        self.assertEqual(found, [(3, 2)])
        self.assertEqual((type(found), type(found[0])), (list, tuple))
        self.assertEqual(violations(ThreeWay(*NO_KEYS), []), [])
        old, new = shuffled(range(12), 1), shuffled(range(12), 2)
        self.assertEqual(violations(ThreeWay(old, new, old), new), [])
        self.assertEqual(len(violations(ThreeWay(old, new, old), new[::-1])), 66)

    def test_wrong_lists(self):
        three = ThreeWay(*EXAMPLE)
        for order, place in WRONG_LISTS:
            self.assert_raises(InvalidList, {"place": place}, violations, three, order)
        for order, key in (([], 1), ([1, 2, 3], 4), ([1, 2, 3, 4, 5], 5), ([0, 2, 3, 4], 0), ([1, 3, 4, 9], 2)):
            self.assert_raises(UnlikeKeys, {"key": key}, violations, three, order)

    def test_arguments_stay_as_they_were(self):
        three, order = ThreeWay(*EXAMPLE), [4, 3, 1, 2]
        violations(three, order)
        resolve(three)
        self.assertEqual((order, three), ([4, 3, 1, 2], ThreeWay(*EXAMPLE)))


if __name__ == "__main__":
    unittest.main()
