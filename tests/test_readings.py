"""Point 9: readings."""

import unittest
from itertools import combinations, islice, permutations, product

from quorumdrift.errors import InvalidList, InvalidReading, UnknownKey, UnlikeKeys
from quorumdrift.readings import Reading, read
from quorumdrift.states import State
from tests.helpers import DriftCase, shuffled, stands_before, within_steps


def all_readings(keys):
    """The pairs of every reading of the keys."""
    places = list(combinations(keys, 2))
    for turned in product([False, True], repeat=len(places)):
        yield [(y, x) if turn else (x, y) for turn, (x, y) in zip(turned, places)]


def some_reading(keys, seed):
    """The pairs of one reading of the keys, which the seed alone decides."""
    places = list(combinations(keys, 2))
    bits = shuffled([False, True] * len(places), seed)
    return shuffled([(y, x) if turn else (x, y) for turn, (x, y) in zip(bits, places)], seed)


SAMPLES = [(keys, pairs) for keys in ([], [4], [4, 2], [4, 9, 2], [4, 9, 2, 7]) for pairs in all_readings(keys)]
SAMPLES += [([3, 0, 8, 5, 1], some_reading([3, 0, 8, 5, 1], seed)) for seed in range(60)]
SAMPLES += [([3, 0, 8, 5, 1, 6], some_reading([3, 0, 8, 5, 1, 6], seed)) for seed in range(12)]


def cycles_of(keys, pairs):
    return sorted(
        (x, y, z) for x, y, z in permutations(keys, 3)
        if x == min(x, y, z) and {(x, y), (y, z), (z, x)} <= set(pairs)
    )


def components_of(keys, pairs):
    """Components by reachability, put into the order in which they are read."""
    reached = set(pairs) | {(key, key) for key in keys}
    while True:
        more = reached | {(x, z) for x, y in reached for w, z in reached if y == w}
        if more == reached:
            break
        reached = more
    parts = {tuple(sorted(y for y in keys if {(x, y), (y, x)} <= reached)) for x in keys}
    return [list(part) for part in sorted(parts, key=lambda part: -len([y for y in keys if (part[0], y) in reached]))]


def rotation(size):
    """The pairs of a reading of an odd number of keys, each before the next half of them, in a circle."""
    return [(key, (key + step) % size) for key in range(size) for step in range(1, size // 2 + 1)]


class AgainstSearchTest(DriftCase):
    def test_keys_and_pairs(self):
        for keys, pairs in SAMPLES:
            reading = Reading(keys, pairs)
            self.assertEqual(reading.all_keys(), sorted(keys))
            self.assertEqual(reading.pairs(), sorted(pairs))
            self.assertEqual(len(reading), len(keys))
            for x, y in product(keys, repeat=2):
                self.assertIs(reading.before(x, y), (x, y) in pairs)
                self.assertIs((x, y) in reading, (x, y) in pairs)

    def test_order(self):
        for keys, pairs in SAMPLES:
            orders = [list(order) for order in permutations(keys) if set(combinations(order, 2)) == set(pairs)]
            self.assertEqual(Reading(keys, pairs).order(), orders[0] if orders else None)
            self.assertIs(Reading(keys, pairs).order() is None, cycles_of(keys, pairs) != [])

    def test_cycles(self):
        for keys, pairs in SAMPLES:
            self.assertEqual(Reading(keys, pairs).cycles(), cycles_of(keys, pairs))

    def test_pinned_and_free_pairs(self):
        for keys, pairs in SAMPLES:
            together = {pair for cycle in cycles_of(keys, pairs) for pair in permutations(cycle, 2)}
            self.assertEqual(Reading(keys, pairs).pinned(), sorted(set(pairs) & together))
            self.assertEqual(Reading(keys, pairs).free(), sorted(set(pairs) - together))

    def test_components(self):
        for keys, pairs in SAMPLES:
            self.assertEqual(Reading(keys, pairs).components(), components_of(keys, pairs))

    def test_paths(self):
        for keys, pairs in SAMPLES:
            reading = Reading(keys, pairs)
            accepted = []
            for order in sorted(permutations(keys)):
                fits = all(pair in pairs for pair in zip(order, order[1:]))
                self.assertIs(reading.accepts(list(order)), fits)
                if fits:
                    accepted.append(list(order))
            self.assertEqual(list(reading.each_path()), accepted)

    def test_opposite_and_without_a_key(self):
        for keys, pairs in SAMPLES:
            reading = Reading(keys, pairs)
            self.assertEqual((-reading).pairs(), sorted((y, x) for x, y in pairs))
            self.assertEqual((-reading).all_keys(), sorted(keys))
            self.assertEqual(-(-reading), reading)
            for key in keys:
                self.assertEqual((reading - key).all_keys(), sorted(set(keys) - {key}))
                self.assertEqual((reading - key).pairs(), sorted(pair for pair in pairs if key not in pair))
            self.assertEqual(reading.pairs(), sorted(pairs))


class ReadTest(DriftCase):
    def check(self, state):
        lists = state.lists()
        expected = [
            (x, y) for x, y in permutations(state.all_keys(), 2)
            if sum(stands_before(order, x, y) for order in lists) >= 2
        ]
        self.assertEqual(read(state).pairs(), expected)
        self.assertEqual(read(state).all_keys(), state.all_keys())

    def test_all_states_of_three_keys(self):
        for lists in product(permutations([5, 20, 1]), repeat=3):
            self.check(State(*map(list, lists)))

    def test_greater_states(self):
        for size in (0, 1, 2, 4, 7, 12):
            for seed in range(10):
                self.check(State(*[shuffled(range(size), seed * 3 + replica) for replica in range(3)]))

    def test_the_lists_of_the_state_stay(self):
        state = State([1, 2, 3], [2, 3, 1], [3, 1, 2])
        self.assertEqual(read(state).cycles(), [(1, 2, 3)])
        self.assertEqual(state.lists(), [[1, 2, 3], [2, 3, 1], [3, 1, 2]])


class EdgesTest(DriftCase):
    def test_no_keys(self):
        reading = Reading([], [])
        for result in (reading.all_keys(), reading.pairs(), reading.order(), reading.cycles(), reading.pinned(),
                       reading.free(), reading.components()):
            self.assertEqual(result, [])
        self.assertIs(reading.accepts([]), True)
        self.assertEqual(list(reading.each_path()), [[]])
        self.assertEqual(len(reading), 0)
        self.assertEqual(-reading, reading)
        self.assertIs((1, 2) in reading, False)

    def test_one_key(self):
        reading = Reading([6], [])
        self.assertEqual(reading.order(), [6])
        self.assertEqual(reading.components(), [[6]])
        self.assertEqual(list(reading.each_path()), [[6]])
        self.assertIs(reading.before(6, 6), False)
        self.assertIs((6, 6) in reading, False)
        self.assertEqual(reading - 6, Reading([], []))

    def test_repeated_pairs_have_no_effect(self):
        once = Reading([1, 2, 3], [(1, 2), (2, 3), (3, 1)])
        twice = Reading([1, 2, 3], [(3, 1), (1, 2), (2, 3), (1, 2), (3, 1)])
        self.assertEqual(once, twice)
        self.assertEqual(twice.pairs(), [(1, 2), (2, 3), (3, 1)])
        self.assertEqual(twice.cycles(), [(1, 2, 3)])

    def test_components_in_order_of_the_reading(self):
        circle = [(1, 5), (5, 9), (9, 1)]
        before = [(7, key) for key in (1, 5, 9, 2)]
        after = [(key, 2) for key in (1, 5, 9)]
        reading = Reading([1, 2, 5, 7, 9], circle + before + after)
        self.assertEqual(reading.components(), [[7], [1, 5, 9], [2]])
        self.assertEqual((-reading).components(), [[2], [1, 5, 9], [7]])
        self.assertEqual(list(reading.each_path()), [[7, 1, 5, 9, 2], [7, 5, 9, 1, 2], [7, 9, 1, 5, 2]])
        self.assertIsNone(reading.order())
        self.assertEqual(reading.pinned(), circle)
        self.assertEqual(reading.free(), sorted(before + after))

    def test_twelve_keys_in_one_order(self):
        keys = shuffled(range(12), 5)
        reading = Reading(list(range(12)), list(combinations(keys, 2)))
        self.assertEqual(reading.order(), keys)
        self.assertEqual(reading.components(), [[key] for key in keys])
        self.assertEqual(list(reading.each_path()), [keys])

    def test_pinned_pairs_of_a_component_need_a_cycle_of_three(self):
        # 1 2 3 4 are one component, but no cycle of three has both 2 and 3.
        reading = Reading([1, 2, 3, 4], [(1, 2), (2, 3), (3, 4), (4, 1), (1, 3), (2, 4)])
        self.assertEqual(reading.components(), [[1, 2, 3, 4]])
        self.assertEqual(reading.cycles(), [(1, 2, 4), (1, 3, 4)])
        self.assertEqual(reading.free(), [(2, 3)])


class GeneratorTest(DriftCase):
    def test_the_first_paths_of_eleven_keys_come_at_once(self):
        reading = Reading(list(range(11)), rotation(11))
        found = within_steps(60000, lambda: list(islice(reading.each_path(), 3)))
        self.assertEqual(found[0], list(range(11)))
        self.assertEqual(found, sorted(found))
        self.assertTrue(all(reading.accepts(order) for order in found))

    def test_a_path_that_must_begin_with_the_greatest_key_comes_at_once(self):
        # A search that tries each beginning would first go wrong very often.
        late = [(x, y) for x in range(12) for y in range(x)]
        pairs = [(y, x) if (x, y) in [(11, 0), (10, 2)] else (x, y) for x, y in late]
        reading = Reading(list(range(12)), pairs)
        found = within_steps(60000, lambda: next(reading.each_path()))
        self.assertTrue(reading.accepts(found))

    def test_each_path_is_an_iterator(self):
        paths = Reading([1, 2], [(2, 1)]).each_path()
        self.assertIs(iter(paths), paths)
        self.assertEqual(next(paths), [2, 1])
        self.assertIsNone(next(paths, None))

    def test_yielded_lists_can_be_changed(self):
        reading = Reading(list(range(5)), rotation(5))
        expected = list(reading.each_path())
        found = []
        for order in reading.each_path():
            found.append(list(order))
            order.clear()
        self.assertEqual(found, expected)
        self.assertGreater(len(found), 5)


class ErrorOrderTest(DriftCase):
    def test_wrong_keys_come_first(self):
        self.assert_raises(InvalidList, {"place": 1}, Reading, [1, 1], [(7, 8)])
        self.assert_raises(InvalidList, {"place": 0}, Reading, [10000, 1], [])
        self.assert_raises(InvalidList, {"place": 12}, Reading, list(range(13)), [])

    def test_then_the_first_unknown_key(self):
        self.assert_raises(UnknownKey, {"key": 9}, Reading, [1, 2], [(1, 1), (9, 8), (3, 4)])
        self.assert_raises(UnknownKey, {"key": 8}, Reading, [1, 2], [(1, 2), (2, 8), (3, 4)])
        self.assert_raises(UnknownKey, {"key": 5}, Reading, [1, 2, 3], [(5, 5)])

    def test_then_the_least_wrong_pair(self):
        wrong = [
            ([1, 2], [], (1, 2)),
            ([2, 1], [], (1, 2)),
            ([1, 2], [(1, 2), (2, 1)], (1, 2)),
            ([1, 2], [(2, 1), (2, 2)], (2, 2)),
            ([1, 2], [(1, 1)], (1, 1)),
            ([1, 2], [(1, 1), (2, 1)], (1, 1)),
            ([1, 2], [(2, 2)], (1, 2)),
            ([6], [(6, 6)], (6, 6)),
            ([1, 2, 3], [(2, 1), (3, 2)], (1, 3)),
            ([1, 2, 3], [(2, 1), (3, 1), (3, 2), (2, 3), (3, 3)], (2, 3)),
            ([1, 2, 3], [(2, 1), (3, 1), (2, 2), (3, 3)], (2, 2)),
            ([1, 2, 3], [(2, 1), (3, 1), (3, 2), (3, 3)], (3, 3)),
            ([3, 10, 2], [(10, 2), (10, 3)], (2, 3)),
        ]
        for keys, pairs, pair in wrong:
            with self.subTest(keys=keys, pairs=pairs):
                self.assert_raises(InvalidReading, {"pair": pair}, Reading, keys, pairs)

    def test_unknown_keys_of_before(self):
        reading = Reading([1, 2], [(1, 2)])
        self.assert_raises(UnknownKey, {"key": 8}, reading.before, 8, 7)
        self.assert_raises(UnknownKey, {"key": 8}, reading.before, 8, 1)
        self.assert_raises(UnknownKey, {"key": 7}, reading.before, 1, 7)
        self.assert_raises(UnknownKey, {"key": 8}, reading.before, 8, 8)

    def test_lists_of_accepts(self):
        reading = Reading([4, 5], [(5, 4)])
        self.assert_raises(InvalidList, {"place": 2}, reading.accepts, [4, 3, 3])
        self.assert_raises(InvalidList, {"place": 0}, reading.accepts, [-1])
        self.assert_raises(UnlikeKeys, {"key": 5}, reading.accepts, [4])
        self.assert_raises(UnlikeKeys, {"key": 3}, reading.accepts, [4, 5, 3])
        self.assert_raises(UnlikeKeys, {"key": 4}, reading.accepts, [6, 5])
        self.assert_raises(UnlikeKeys, {"key": 4}, reading.accepts, [])

    def test_unknown_key_to_be_left_out(self):
        self.assert_raises(UnknownKey, {"key": 3}, Reading([4, 5], [(5, 4)]).__sub__, 3)
        self.assert_raises(UnknownKey, {"key": 3}, Reading([], []).__sub__, 3)


class OperatorTest(DriftCase):
    def test_equal(self):
        reading = Reading([1, 2, 3], [(1, 2), (2, 3), (3, 1)])
        self.assertIs(reading == Reading([3, 2, 1], [(3, 1), (2, 3), (1, 2)]), True)
        self.assertIs(reading != Reading([3, 2, 1], [(3, 1), (2, 3), (1, 2)]), False)
        self.assertIs(reading == -reading, False)
        self.assertIs(reading != -reading, True)
        self.assertIs(reading == reading - 3, False)
        self.assertIs(Reading([1], []) == Reading([2], []), False)
        self.assertIs(Reading([1], []) == Reading([], []), False)

    def test_in_is_false_for_unknown_keys(self):
        reading = Reading([1, 2], [(1, 2)])
        self.assertIs((1, 2) in reading, True)
        for pair in ((2, 1), (1, 1), (1, 3), (3, 1), (3, 3), (-1, 1)):
            self.assertIs(pair in reading, False)


if __name__ == "__main__":
    unittest.main()
