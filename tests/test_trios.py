"""Point 35: three contents of one kind, read place by place by the majority."""

import unittest
from itertools import permutations, product

from quorumdrift.cachesets import CacheSet
from quorumdrift.contents import Contents
from quorumdrift.dependencysets import DependencySet
from quorumdrift.errors import AudibleChange, UnknownPlace, UnknownReplica, UnlikeContents
from quorumdrift.orderlists import OrderList
from quorumdrift.paths import play_path
from quorumdrift.shardmaps import ShardMap
from quorumdrift.tierlists import TierList
from quorumdrift.trios import Trio
from tests.helpers import DriftCase
from tests.kinds import FIVE_KINDS
from tests.oracles import WRONG_REPLICAS
from tests.trio_oracles import CASES, CONFLICTS, FOURS, THREE, THREES, every, some_cases

# Contents of which no two fit into one Trio.
MISFITS = [
    OrderList([1, 2, 3]), OrderList([1, 2, 4]), OrderList([1, 2]), OrderList([]),
    ShardMap([[1, 2, 3]]), ShardMap([[1], [2, 4]]), ShardMap([]),
    DependencySet([1, 2, 3], []), DependencySet([1, 2, 4], []), DependencySet([1, 2], []),
    CacheSet([1, 2, 3], [], []), CacheSet([1, 2, 3], [], [(1, 2, 3)]), CacheSet([1, 2], [], []),
    CacheSet([1, 2, 3, 4], [], [(1, 2, 3)]), CacheSet([1, 2, 3, 4], [], [(1, 2, 4)]), CacheSet([1, 2, 3, 4], [], []),
    CacheSet([1, 2, 3, 4], [], [(1, 2, 4), (1, 2, 3)]),
    TierList([[1, 2, 3]]), TierList([[1, 2], [4]]), TierList([]),
]
BARE = [Contents([1, 2, 3]), Contents([])]


class ReadingTest(DriftCase):
    def test_the_majority_and_its_conflicts(self):
        conflicts = 0
        for case in CASES:
            trio = case.trio()
            self.assertEqual(trio.reading(), case.reading())
            self.assertEqual(trio.conflicts(), case.conflicts())
            self.assertEqual(trio.pinned(), case.pinned())
            self.assertEqual(trio.dealing(), case.dealing())
            conflicts += len(case.conflicts())
        self.assertGreater(conflicts, 150)

    def test_dissenters(self):
        for case in CASES:
            trio = case.trio()
            for place in case.places:
                wanted = (case.dissenters(place) + [None])[0]
                self.assertEqual(trio.dissenter(place), wanted)

    def test_three_dissenters_in_each_conflict(self):
        for case in CONFLICTS:
            trio = case.trio()
            for conflict in trio.conflicts():
                self.assertEqual(sorted(trio.dissenter(place) for place in conflict), [0, 1, 2])

    def test_unknown_places(self):
        for case in THREES[::9]:
            trio = case.trio()
            wrong = [(), (1, 1), (1, 2), (9, 10), (-1, 1), (1, 4, 9), (2,), (10000,)]
            wrong += [(4,), (1,)] if case.kind.owner is not CacheSet else [(1, 4)]
            wrong += [(9, 4), (4, 1)] if case.kind.owner in (OrderList, ShardMap) else []
            for place in wrong:
                self.assert_raises(UnknownPlace, {"place": place}, trio.dissenter, place)

    def test_contents_and_label(self):
        for case in CASES[::5]:
            trio = case.trio()
            for replica, words in enumerate(case.words):
                self.assertEqual(trio.contents_of(replica), case.contents(words))
                self.assertIs(type(trio.contents_of(replica)), case.kind.owner)
            self.assertEqual(trio.label(), f"{case.kind.owner.KIND}: {len(case.keys)} keys")

    def test_kinds_of_results(self):
        trio = next(case for case in CONFLICTS if case.kind.owner is TierList and case.homeward()).trio()
        lists = [trio.reading(), trio.conflicts(), trio.pinned(), trio.dealing(), trio.silent_changes(), trio.homeward()]
        for result in lists:
            self.assertIs(type(result), list)
            for part in result:
                self.assertIs(type(part), tuple)
            result.clear()
        self.assertTrue(trio.reading() and trio.conflicts() and trio.silent_changes() and trio.homeward())

    def test_some_trios(self):
        trio = Trio(OrderList([1, 2, 3]), OrderList([2, 3, 1]), OrderList([3, 1, 2]))
        self.assertEqual(trio.reading(), [(1, 2), (2, 3)])
        self.assertEqual(trio.dealing(), [((1, 2), 1), ((1, 3), 0), ((2, 3), 2)])
        trio = Trio(*[CacheSet([1, 2, 3], held, [(1, 2, 3)]) for held in ([1, 2], [2, 3], [1, 3])])
        self.assertEqual(trio.conflicts(), [((1,), (2,), (3,))])
        self.assertEqual(trio.dealing(), [((1,), 1), ((2,), 2), ((3,), 0)])
        self.assertEqual(trio.label(), "caches: 3 keys")


class FitTest(DriftCase):
    def test_contents_that_do_not_fit(self):
        for one, other in product(MISFITS, repeat=2):
            if one is other:
                self.assertIs(Trio(one, one, one).contents_of(2), one)
                continue
            for three in ((one, one, other), (one, other, one), (other, one, one)):
                self.assert_raises(UnlikeContents, {}, Trio, *three)
        for three in permutations(MISFITS[:5], 3):
            self.assert_raises(UnlikeContents, {}, Trio, *three)

    def test_the_base_class_is_no_kind(self):
        for bare in BARE:
            self.assert_raises(UnlikeContents, {}, Trio, bare, bare, bare)
            for one in MISFITS:
                for three in ((one, one, bare), (one, bare, one), (bare, one, one), (bare, bare, one)):
                    self.assert_raises(UnlikeContents, {}, Trio, *three)

    def test_a_book_in_another_order_is_the_same(self):
        first = CacheSet([1, 2, 3, 4], [1], [(1, 2, 3), (2, 3, 4)])
        second = CacheSet([4, 3, 2, 1], [2], [(4, 3, 2), (3, 2, 1), (2, 3, 4)])
        self.assertEqual(Trio(first, second, first).reading(), [(1,)])

    def test_changes_that_do_not_fit(self):
        for one in MISFITS:
            trio = Trio(one, one, one)
            for other in MISFITS + BARE:
                if other is not one:
                    for replica in range(3):
                        self.assert_raises(UnlikeContents, {}, trio.is_silent, replica, other)
                        self.assert_raises(UnlikeContents, {}, trio.with_contents, replica, other)

    def test_unknown_replicas_come_first(self):
        for one in MISFITS[::4]:
            trio = Trio(one, one, one)
            for replica in WRONG_REPLICAS:
                self.assert_raises(UnknownReplica, {"replica": replica}, trio.contents_of, replica)
                for other in MISFITS[::3] + BARE:
                    self.assert_raises(UnknownReplica, {"replica": replica}, trio.is_silent, replica, other)
                    self.assert_raises(UnknownReplica, {"replica": replica}, trio.with_contents, replica, other)


class ChangesTest(DriftCase):
    def test_silent_exactly_if_the_reading_stays(self):
        counts = {True: 0, False: 0}
        for case in CASES[::4]:
            trio = case.trio()
            for replica in range(3):
                for words, contents in list(every(case.place, case.keys).items())[::3]:
                    after = case.with_words(replica, words)
                    silent = after.reading() == case.reading()
                    counts[silent] += 1
                    self.assertIs(trio.is_silent(replica, contents), silent)
                    if silent:
                        self.assertEqual(trio.with_contents(replica, contents), after.trio())
                    else:
                        self.assert_raises(AudibleChange, {"step": 0}, trio.with_contents, replica, contents)
            self.assertEqual(trio, case.trio())
        self.assertGreater(min(counts.values()), 500)

    def test_silent_basic_changes(self):
        changes = 0
        for case in CASES:
            found = [(replica, tuple(contents.words())) for replica, contents in case.trio().silent_changes()]
            self.assertEqual(found, [change[:2] for change in case.silent()])
            changes += len(found)
        self.assertGreater(changes, 2000)

    def test_homeward_changes(self):
        changes = 0
        for case in CASES:
            trio = case.trio()
            found = [(replica, tuple(contents.words())) for replica, contents in trio.homeward()]
            self.assertEqual(found, [change[:2] for change in case.homeward()])
            for change in trio.homeward():
                self.assertIn(change, trio.silent_changes())
            changes += len(found)
        self.assertGreater(changes, 500)

    def test_changes_of_many_words(self):
        # The ranks can be joined without a word of the reading, which has 1 before 2 by the two others.
        flat, parted = TierList([[1, 2, 3]]), TierList([[1], [2], [3]])
        trio = Trio(TierList([[2, 3], [1]]), parted, parted)
        self.assertEqual([contents.ranks() for _, contents in trio.homeward()], [[[1, 2, 3]], [[2], [3], [1]]])
        trio = Trio(flat, parted, parted)
        found = [contents.ranks() for replica, contents in trio.homeward() if replica == 0]
        self.assertEqual(found, [[[1], [2, 3]], [[1, 2], [3]]])
        self.assertEqual(len([change for change in trio.silent_changes() if change[0] == 0]), 6)

    def test_closed_home(self):
        homes = set()
        for case in CASES:
            home = case.trio().closed_home()
            homes.add(home == case.trio())
            for seed in range(2):
                self.assertEqual(home, case.home(seed).trio())
            self.assertEqual(home.homeward(), [])
            self.assertEqual((home.reading(), home.dealing()), (case.reading(), case.dealing()))
        self.assertEqual(homes, {True, False})

    def test_closed_home_of_eight_keys(self):
        order = [3, 6, 0, 7, 1, 5, 4, 2]
        for trio in (
            Trio(OrderList(order), OrderList(order[::-1]), OrderList(sorted(order))),
            Trio(TierList([order[:3], order[3:]]), TierList([[key] for key in order]), TierList([order])),
            Trio(ShardMap([order[:3], order[3:]]), ShardMap([[key] for key in order]), ShardMap([order])),
        ):
            now = trio
            while now.homeward():
                now = play_path(now, now.homeward()[-1:])
            self.assertEqual(trio.closed_home(), now)


class EqualTest(DriftCase):
    def test_equal(self):
        cases = THREES[::12] + FOURS[::12]
        for one, other in product(cases, repeat=2):
            same = one is other or (one.place, one.words) == (other.place, other.words) and one.keys == other.keys
            caches = [case for case in (one, other) if case.kind.owner is CacheSet]
            books = {str(case.kind.make(list(case.keys), []).book()) for case in caches}
            if (one.kind.owner, one.words, one.keys) == (other.kind.owner, other.words, other.keys) and len(books) < 2:
                same = True
            self.assertIs(one.trio() == other.trio(), same)
            self.assertIs(one.trio() != other.trio(), not same)

    def test_one_replica_makes_the_difference(self):
        for kind in range(len(FIVE_KINDS)):
            first, second = list(every(kind, THREE).values())[:2]
            threes = list(product([first, second], repeat=3))
            for one, other in product(threes, repeat=2):
                self.assertIs(Trio(*one) == Trio(*other), one == other)

    def test_other_things(self):
        for case in some_cases(THREE, 1, 5):
            for other in (None, 0, "", [], case, case.trio().contents_of(0), case.trio().reading()):
                self.assertIs(case.trio() == other, False)
                self.assertIs(case.trio() != other, True)
        self.assertIs(Trio(*[OrderList([])] * 3) == Trio(*[TierList([])] * 3), False)


if __name__ == "__main__":
    unittest.main()
