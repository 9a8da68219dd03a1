"""Points 23 and 24: the classes that share a reading, and the state of a dealing."""

import unittest
from itertools import combinations, islice, permutations, product

from quorumdrift.dealings import build, census, class_at, class_count, class_rank, each_home
from quorumdrift.dissents import dealing
from quorumdrift.errors import InvalidDealing, NoDealing, OutOfRange, TooMany
from quorumdrift.readings import Reading, read
from quorumdrift.relations import Relation
from quorumdrift.states import State
from tests.helpers import DriftCase, shuffled, stands_before, within_steps
from tests.oracles import CIRCLE, EMPTY, FIVES, FOURS, PAIRS, SINGLE, TRIPLES, TWELVES, WRONG_REPLICAS
from tests.oracles import circles, dissenters, pinned_pairs, spread, state_of, walked
from tests.test_forced import settled_by_swaps

ROUND = Reading([1, 2, 3], [(1, 2), (2, 3), (3, 1)])
# No state of eight keys is read so.
UNREAD = Reading(list(range(8)), [
    (0, 1), (2, 0), (0, 3), (4, 0), (0, 5), (6, 0), (7, 0), (2, 1), (1, 3), (1, 4), (5, 1), (1, 6), (1, 7), (2, 3),
    (4, 2), (5, 2), (6, 2), (2, 7), (4, 3), (3, 5), (6, 3), (3, 7), (5, 4), (4, 6), (7, 4), (6, 5), (5, 7), (7, 6),
])
# The document's example: a dealing without a cycle, and two of its relations clash.
CLASH_PAIRS = [
    (0, 1), (0, 2), (3, 0), (0, 4), (0, 5), (1, 2), (1, 3), (1, 4), (5, 1), (2, 3), (2, 4), (5, 2), (4, 3), (5, 3),
    (4, 5),
]
CLASH_SHARES = [
    (0, 1, 0), (0, 2, 1), (3, 0, 2), (0, 4, 0), (0, 5, 1), (1, 3, 1), (1, 4, 2), (5, 1, 0), (2, 3, 0), (2, 4, 0),
    (5, 2, 2), (4, 3, 1), (5, 3, 0), (4, 5, 1),
]
SAMPLES = [EMPTY, SINGLE, CIRCLE] + PAIRS + TRIPLES[::5] + FOURS + FIVES + TWELVES
SAMPLES += [state_of(size, seed) for size in (5, 6, 7, 8) for seed in range(61, 101, 2)]


def readings_of(keys):
    """All readings of the keys."""
    pairs = list(combinations(keys, 2))
    for turned in product((False, True), repeat=len(pairs)):
        yield Reading(keys, [pair[::-1] if turn else pair for pair, turn in zip(pairs, turned)])


def homes_of(reading):
    """The settled states that are read so, by the document's words: the lists of three paths, ascending."""
    pairs = set(reading.pairs())
    paths = [
        order for order in permutations(reading.all_keys())
        if all(pair in pairs for pair in zip(order, order[1:]))
    ]
    turned = [{(x, y) for x, y in pairs if stands_before(order, y, x)} for order in paths]
    apart = [[not mine & theirs for theirs in turned] for mine in turned]
    return [
        [list(paths[i]), list(paths[j]), list(paths[k])]
        for i in range(len(paths)) for j in range(len(paths)) if apart[i][j]
        for k in range(len(paths)) if apart[i][k] and apart[j][k]
    ]


READINGS = [reading for size in range(4) for reading in readings_of(list(range(size)))]
READINGS += list(readings_of([4, 9, 2, 7]))[::3] + [ROUND]
READINGS += [read(state_of(size, seed)) for size in (5, 6) for seed in range(41, 71, 2)]
READINGS += [Reading(list(range(6)), CLASH_PAIRS)]
HOMES = [(reading, homes_of(reading)) for reading in READINGS]


class EachHomeTest(DriftCase):
    def test_against_all_paths(self):
        counts = set()
        for reading, homes in HOMES:
            found = list(each_home(reading))
            self.assertEqual([home.lists() for home in found], homes)
            self.assertTrue(all(type(home) is State for home in found))
            counts.add(len(homes))
        self.assertTrue({1, 6, 18} <= counts)
        self.assertGreater(max(counts), 50)

    def test_against_all_states_of_three_keys(self):
        for reading in readings_of([1, 5, 30]):
            homes = {str(settled_by_swaps(state)) for state in TRIPLES if read(state) == reading}
            self.assertEqual({str(home) for home in each_home(reading)}, homes)

    def test_of_four_keys_each_class_once(self):
        for reading in list(readings_of([0, 1, 2, 3]))[::9]:
            homes = list(each_home(reading))
            found = set()
            for orders in product(permutations(range(4)), repeat=3):
                if orders not in found and read_of(orders) == set(reading.pairs()):
                    members = set(spread(State(*map(list, orders))))
                    self.assertEqual(len([home for home in homes if as_tuples(home) in members]), 1)
                    found |= members

    def test_without_a_cycle(self):
        order = shuffled(range(12), 3)
        reading = read(State.same(order))
        self.assertEqual(within_steps(100000, lambda: list(each_home(reading))), [State.same(order)])
        self.assertEqual(list(each_home(Reading([], []))), [EMPTY])
        self.assertEqual(list(each_home(Reading([4], []))), [SINGLE])

    def test_with_a_cycle(self):
        found = [str(home) for home in each_home(ROUND)]
        wanted = [" / ".join(lists) for lists in permutations(["1 2 3", "2 3 1", "3 1 2"])]
        self.assertEqual(found, wanted)

    def test_without_any_settled_state(self):
        self.assertEqual(homes_of(UNREAD), [])
        self.assertEqual(list(each_home(UNREAD)), [])

    def test_left_early(self):
        for state in TWELVES + [state_of(12, seed) for seed in (7, 9, 21)]:
            reading = read(state)
            found = within_steps(300000, lambda: list(islice(each_home(reading), 2)))
            for home in found:
                self.assertEqual(read(home), reading)
                self.assertEqual(settled_by_swaps(home), home)
            self.assertEqual(found, sorted(found, key=State.lists))

    def test_what_is_yielded_can_be_changed(self):
        found = []
        for home in each_home(ROUND):
            found.append(home.lists())
            home.lists()[1].reverse()
            home.list_of(0).append(9)
        self.assertEqual(found, homes_of(ROUND))


def read_of(orders):
    """The pairs that at least two of the lists have."""
    return {
        (x, y) for x, y in permutations(orders[0], 2)
        if [stands_before(order, x, y) for order in orders].count(True) >= 2
    }


def as_tuples(state):
    """The lists of a state as tuples."""
    return tuple(map(tuple, state.lists()))


class CountTest(DriftCase):
    def test_class_count(self):
        for reading, homes in HOMES:
            self.assertEqual(class_count(reading), len(homes))
            if reading.cycles():
                self.assertEqual(class_count(reading) % 6, 0)
            else:
                self.assertEqual(class_count(reading), 1)
        self.assertEqual(class_count(UNREAD), 0)

    def test_class_rank(self):
        for state in [EMPTY, SINGLE, CIRCLE] + PAIRS + TRIPLES[::7] + FOURS[::3] + FIVES[1::4]:
            homes = homes_of(read(state))
            rank = homes.index(settled_by_swaps(state).lists())
            self.assertEqual(class_rank(state), rank)
            self.assertEqual(class_rank(walked(state, 9, 4)), rank)

    def test_class_at(self):
        for reading, homes in HOMES:
            for rank in list(range(len(homes)))[::max(1, len(homes) // 9)]:
                self.assertEqual(class_at(reading, rank).lists(), homes[rank])
                self.assertEqual(class_rank(class_at(reading, rank)), rank)
            self.assertIs(type(class_at(reading, 0)), State)
            self.assertEqual(class_at(reading, len(homes) - 1).lists(), homes[-1])

    def test_ranks_that_there_are_not(self):
        for reading, homes in HOMES[::3] + [(ROUND, homes_of(ROUND)), (UNREAD, [])]:
            for rank in (-1, -2, -len(homes), -len(homes) - 1, len(homes), len(homes) + 1, 10 ** 20):
                if rank not in range(len(homes)):
                    self.assert_raises(OutOfRange, {"limit": len(homes)}, class_at, reading, rank)
        self.assert_raises(OutOfRange, {"limit": 0}, class_at, UNREAD, 0)


class CensusTest(DriftCase):
    def test_few_keys(self):
        self.assertEqual([census(size) for size in range(4)], [(1, 1), (1, 1), (2, 2), (8, 18)])
        self.assertIs(type(census(3)), tuple)

    def test_four_keys(self):
        counts = [len(homes_of(reading)) for reading in readings_of([0, 1, 2, 3])]
        self.assertEqual(census(4), (len([many for many in counts if many]), sum(counts)))

    def test_too_many(self):
        for size in (5, 6, 12, 13, 10 ** 9):
            self.assert_raises(TooMany, {"limit": 4}, census, size)


class BuildTest(DriftCase):
    def test_of_the_reading_and_the_dealing_of_a_state(self):
        pinned = 0
        for state in SAMPLES:
            reading, shares = read(state), dealing(state)
            home = settled_by_swaps(state)
            found = build(reading, shares)
            self.assertIs(type(found), State)
            self.assertEqual(found, home)
            self.assertEqual(build(reading, shares[::-1]), home)
            self.assertEqual(build(reading, shuffled(shares, 5)), home)
            pinned += len(shares) > 8
        self.assertGreater(pinned, 10)

    def test_every_dealing_of_few_keys(self):
        counts = {"state": 0, "cycle": 0}
        for reading in list(readings_of([0, 1, 2])) + list(readings_of([3, 0, 2, 1]))[::5]:
            homes = {tuple(dealing(State(*lists))): lists for lists in homes_of(reading)}
            pinned = reading.pinned()
            for dealt in product(range(3), repeat=len(pinned)):
                shares = [(x, y, replica) for (x, y), replica in zip(pinned, dealt)]
                if tuple(shares) in homes:
                    self.assertEqual(build(reading, shares).lists(), homes[tuple(shares)])
                    counts["state"] += 1
                else:
                    self.assert_raises(NoDealing, {"reason": reason_for(reading, shares)}, build, reading, shares)
                    counts["cycle"] += 1
        self.assertGreater(min(counts.values()), 30)

    def test_dealings_of_more_keys(self):
        kinds = {"cycle": 0, "clash": 0, None: 0}
        for seed in range(300):
            reading = read(state_of(6 + seed % 3, 2 * seed + 1))
            shares = dealt_by_cycles(reading, seed)
            reason = reason_for(reading, shares)
            if reason is None:
                home = build(reading, shares)
                self.assertEqual((read(home), dealing(home)), (reading, shares))
                self.assertEqual(settled_by_swaps(home), home)
                kinds[None] += 1
            else:
                self.assert_raises(NoDealing, {"reason": reason}, build, reading, shuffled(shares, seed))
                kinds[reason[0]] += 1
        self.assertGreater(min(kinds["cycle"], kinds[None]), 30)

    def test_without_pinned_pairs(self):
        for order in ([], [4], shuffled(range(12), 9)):
            self.assertEqual(build(read(State.same(order)), []), State.same(order))


def reason_for(reading, shares):
    """Why no state has the dealing, by the document's words, or None."""
    relations = []
    for replica in range(3):
        words = [(y, x) if dealt == replica else (x, y) for x, y, dealt in shares]
        relations.append(Relation(reading.all_keys(), words))
        if relations[-1].cycle() is not None:
            return ("cycle", replica, tuple(relations[-1].cycle()))
    for x, y in reading.free():
        for g, h in combinations(range(3), 2):
            if relations[g].implies(y, x) and relations[h].implies(y, x):
                return ("clash", x, y, g, h)
    return None


def dealt_by_cycles(reading, seed):
    """Entries that give each cycle three replicas, where the pairs in ascending order allow it."""
    dealt = {}
    for place, (x, y) in enumerate(reading.pinned()):
        taken = {
            dealt.get(pair) for triple in reading.cycles() for pair in sides(triple)
            if (x, y) in sides(triple)
        }
        choices = [replica for replica in shuffled(range(3), seed + place) if replica not in taken]
        dealt[(x, y)] = choices[0] if choices else 0
    return [(x, y, replica) for (x, y), replica in dealt.items()]


def sides(triple):
    """The three pairs of a cycle."""
    x, y, z = triple
    return [(x, y), (y, z), (z, x)]


class InvalidDealingTest(DriftCase):
    READING = read(CIRCLE + State.same([4, 5]))
    SHARES = [(1, 2, 1), (2, 3, 2), (3, 1, 0)]

    def test_the_right_entries(self):
        self.assertEqual(build(self.READING, self.SHARES), CIRCLE + State.same([4, 5]))

    def test_each_kind_of_wrong_entry(self):
        wrong = [
            (2, 1, 1), (1, 3, 0), (3, 2, 2),
            (1, 4, 0), (4, 5, 1), (5, 4, 1), (1, 1, 0), (4, 4, 2), (1, 9, 0), (-1, 2, 1), (2, 10000, 1),
        ]
        for entry in wrong:
            for place in range(4):
                shares = self.SHARES[:place] + [entry] + self.SHARES[place:]
                self.assert_raises(InvalidDealing, {"place": place}, build, self.READING, shares)
            for place in range(3):
                shares = self.SHARES[:place] + [entry] + self.SHARES[place + 1:]
                self.assert_raises(InvalidDealing, {"place": place}, build, self.READING, shares)

    def test_wrong_replicas(self):
        for place, replica in product(range(3), WRONG_REPLICAS):
            x, y, _ = self.SHARES[place]
            shares = self.SHARES[:place] + [(x, y, replica)] + self.SHARES[place + 1:]
            self.assert_raises(InvalidDealing, {"place": place}, build, self.READING, shares)

    def test_repeated_pairs(self):
        for place in range(3):
            x, y, replica = self.SHARES[place]
            for again in ((x, y, replica), (x, y, (replica + 1) % 3)):
                self.assert_raises(InvalidDealing, {"place": 3}, build, self.READING, self.SHARES + [again])
                shares = [again] + self.SHARES
                self.assert_raises(InvalidDealing, {"place": place + 1}, build, self.READING, shares)

    def test_the_least_wrong_entry_is_told(self):
        shares = [(1, 2, 1), (2, 3, 3), (3, 1, -1), (9, 9, 9)]
        self.assert_raises(InvalidDealing, {"place": 1}, build, self.READING, shares)
        shares = [(1, 2, 1), (1, 2, 0), (4, 5, 0)]
        self.assert_raises(InvalidDealing, {"place": 1}, build, self.READING, shares)
        self.assert_raises(InvalidDealing, {"place": 0}, build, Reading([], []), [(0, 1, 0)])

    def test_a_missing_pair(self):
        for many in range(3):
            for shares in permutations(self.SHARES, many):
                self.assert_raises(InvalidDealing, {"place": many}, build, self.READING, list(shares))
        # A wrong entry is told before a missing pair, and a missing pair before a cycle.
        self.assert_raises(InvalidDealing, {"place": 0}, build, self.READING, [(2, 1, 0)])
        self.assert_raises(InvalidDealing, {"place": 2}, build, self.READING, [(1, 2, 1), (2, 3, 1)])


class NoDealingTest(DriftCase):
    def test_cycles(self):
        # A replica that turns none or all of the three pairs says a circle.
        shares = [(1, 2, 1), (2, 3, 1), (3, 1, 1)]
        self.assert_raises(NoDealing, {"reason": ("cycle", 0, (1, 2, 3))}, build, ROUND, shares)
        shares = [(1, 2, 0), (2, 3, 0), (3, 1, 0)]
        self.assert_raises(NoDealing, {"reason": ("cycle", 0, (1, 3, 2))}, build, ROUND, shares)
        shares = [(3, 1, 0), (1, 2, 0), (2, 3, 2)]
        self.assert_raises(NoDealing, {"reason": ("cycle", 1, (1, 2, 3))}, build, ROUND, shares)
        shares = [(3, 1, 0), (1, 2, 1), (2, 3, 0)]
        self.assert_raises(NoDealing, {"reason": ("cycle", 2, (1, 2, 3))}, build, ROUND, shares)

    def test_the_documents_clash(self):
        reading = Reading(list(range(6)), CLASH_PAIRS)
        reason = {"reason": ("clash", 1, 2, 1, 2)}
        self.assert_raises(NoDealing, reason, build, reading, CLASH_SHARES)
        self.assert_raises(NoDealing, reason, build, reading, CLASH_SHARES[::-1])
        self.assertEqual(reading.free(), [(1, 2)])

    def test_clashes_of_other_replicas(self):
        reading = Reading(list(range(6)), CLASH_PAIRS)
        for names in permutations(range(3)):
            shares = [(x, y, names[replica]) for x, y, replica in CLASH_SHARES]
            g, h = sorted([names[1], names[2]])
            self.assert_raises(NoDealing, {"reason": ("clash", 1, 2, g, h)}, build, reading, shares)

    def test_of_several_clashes_the_least(self):
        pairs = CLASH_PAIRS + [(x + 6, y + 6) for x, y in CLASH_PAIRS]
        shares = CLASH_SHARES + [(x + 6, y + 6, (replica + 1) % 3) for x, y, replica in CLASH_SHARES]
        for turned in (False, True):
            between = [(y, x) if turned else (x, y) for x in range(6) for y in range(6, 12)]
            reading = Reading(list(range(12)), pairs + between)
            self.assert_raises(NoDealing, {"reason": ("clash", 1, 2, 1, 2)}, build, reading, shares)
        moved = [(x, y, replica) if x < 6 else (x, y, 0) for x, y, replica in shares]
        self.assertEqual(reason_for(reading, moved)[:2], ("cycle", 0))
        self.assert_raises(NoDealing, {"reason": reason_for(reading, moved)}, build, reading, moved)

    def test_with_five_keys_there_is_no_clash(self):
        kinds = set()
        for seed in range(200):
            reading = read(state_of(5, 2 * seed + 1))
            shares = dealt_by_cycles(reading, seed)
            try:
                build(reading, shares)
                kinds.add("state")
            except NoDealing as error:
                kinds.add(error.reason[0])
        self.assertEqual(kinds, {"state", "cycle"})


class ArgumentsTest(DriftCase):
    def test_arguments_stay_as_they_were(self):
        shares = list(InvalidDealingTest.SHARES)
        build(ROUND, shares)
        class_at(ROUND, 2)
        class_rank(CIRCLE)
        class_count(ROUND)
        list(each_home(ROUND))
        self.assertEqual(shares, InvalidDealingTest.SHARES)
        self.assertEqual(ROUND, Reading([1, 2, 3], [(1, 2), (2, 3), (3, 1)]))
        self.assertEqual(CIRCLE.lists(), [[1, 2, 3], [2, 3, 1], [3, 1, 2]])

    def test_dealings_of_all_states_of_a_class_are_one(self):
        for state in FIVES:
            other = walked(state, 15, 2)
            self.assertEqual(build(read(other), dealing(other)), build(read(state), dealing(state)))
            for x, y, replica in dealing(state):
                self.assertEqual(dissenters(other, x, y), [replica])
            self.assertEqual(len(dealing(state)), len(pinned_pairs(state)))
            self.assertEqual(circles(other), circles(state))


if __name__ == "__main__":
    unittest.main()
