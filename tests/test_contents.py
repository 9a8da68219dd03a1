"""Point 29: what is said of contents of all kinds, for lists and groups of keys."""

import random
import unittest

from quorumdrift.contents import Contents
from quorumdrift.errors import InvalidContents, UnknownPlace
from quorumdrift.orderlists import OrderList
from quorumdrift.shardmaps import ShardMap
from tests.helpers import DriftCase, shuffled
from tests.kinds import KINDS, NO_PLACES, chosen, pairs_of

KEYS = [1, 4, 6, 9]
# Lists of too many keys, of a key twice, or of what is no key.
WRONG_KEYS = [
    list(range(9)), list(range(40)), [1, 1], [3, 4, 3], [-1], [1, 2, -1], [10000], [0, 10000, 1], [5] * 9,
    list(range(8)) + [-1], list(range(8)) + [3],
    [True], [False], [0, 2, True], ["1"], [1, "2"], [None], [1.0], [(1,)], [[1]], [b"1", 1],
]
# Other values than lists: right keys and wrong ones, and no keys at all.
NO_LISTS = [
    (), (1,), (1, 2), (477, 656, 188, 949), (0, 9999), (1, 1), (-1,), (10000,), tuple(range(9)), ([1],),
    {}, {1: 2, 3: 4}, {1, 2}, frozenset([1, 2]), range(3), range(9), iter([1, 2]), "", "12", b"", b"12", None, 1, True,
]


def samples(most):
    """Each kind with contents of few keys: (class, contents, its words, the words of all contents of its keys)."""
    for kind, forms, words in KINDS:
        for size in range(most + 1):
            shapes = forms(shuffled(range(0, 7 * size, 7), size))
            every = [words(shape) for shape in shapes]
            for shape in shapes:
                yield kind, kind(shape), words(shape), every


class BaseClassTest(DriftCase):
    def test_keys_and_label(self):
        for size in range(9):
            keys = shuffled([9999, 0, 17, 4, 5, 301, 42, 1000], 3)[:size]
            contents = Contents(keys)
            self.assertEqual(contents.all_keys(), sorted(keys))
            self.assertEqual(contents.label(), f"{size} keys")

    def test_wrong_keys(self):
        for keys in WRONG_KEYS:
            self.assert_raises(InvalidContents, {}, Contents, keys)

    def test_other_values_than_lists(self):
        for keys in NO_LISTS:
            self.assert_raises(InvalidContents, {}, Contents, keys)

    def test_keys_are_copied(self):
        keys = [3, 1, 2]
        contents = Contents(keys)
        self.assertEqual(keys, [3, 1, 2])
        keys.append(9)
        contents.all_keys().clear()
        self.assertEqual((contents.all_keys(), contents.label()), ([1, 2, 3], "3 keys"))

    def test_it_is_the_base_class(self):
        self.assertEqual(Contents.__bases__, (object,))
        for kind, _, _ in KINDS:
            self.assertEqual(kind.__bases__, (Contents,))


class PlacesTest(DriftCase):
    def test_keys_places_and_words(self):
        for kind, contents, words, _ in samples(5):
            keys = contents.all_keys()
            self.assertEqual(contents.places(), pairs_of(keys))
            self.assertEqual(contents.words(), words)
            self.assertEqual(contents.label(), f"{kind.KIND}: {len(keys)} keys")
            for result in (contents.places(), contents.words()):
                self.assertTrue(type(result) is list and all(type(place) is tuple for place in result))

    def test_operators(self):
        for _, contents, words, _ in samples(4):
            self.assertEqual(len(contents), len(words))
            for place in contents.places() + NO_PLACES + [(0, 7), (7, 0), (0, 0)]:
                self.assertIs(place in contents, place in words)

    def test_equal(self):
        every = [(kind, words, contents) for kind, contents, words, _ in samples(3)]
        again = [(kind, words, contents) for kind, contents, words, _ in samples(3)]
        for kind, words, contents in every:
            for other_kind, other_words, other in again:
                same = kind is other_kind and words == other_words and contents.all_keys() == other.all_keys()
                self.assertIs(contents == other, same)
                self.assertIs(contents != other, not same)
            for other in (Contents(contents.all_keys()), None, "", 0, [], words):
                self.assertIs(contents == other, False)
                self.assertIs(contents != other, True)
        self.assertIs(OrderList([1, 2]) == OrderList([1, 3]), False)
        self.assertIs(ShardMap([[1], [2]]) == ShardMap([[1], [3]]), False)
        self.assertIs(OrderList([]) == ShardMap([]), False)


class LikeTest(DriftCase):
    def test_every_set_of_places(self):
        counts = {True: 0, False: 0}
        for kind, contents, _, every in samples(4):
            places = contents.places()
            codes = range(1 << len(places)) if len(places) < 6 else range(0, 64, 5)
            for code in codes:
                words = chosen(places, code)
                counts[words in every] += 1
                for given in (words, words[::-1], shuffled(words, code)):
                    if words in every:
                        found = contents.like(given)
                        self.assertIs(type(found), kind)
                        self.assertEqual((found.words(), found.all_keys()), (words, contents.all_keys()))
                    else:
                        self.assert_raises(InvalidContents, {}, contents.like, given)
        self.assertGreater(min(counts.values()), 100)

    def test_the_words_of_all_contents(self):
        for _, contents, words, every in samples(5):
            self.assertEqual(contents.like(words), contents)
            for other in every[::17]:
                self.assertEqual(contents.like(shuffled(other, 1)).words(), other)

    def test_no_words(self):
        self.assertEqual(OrderList([4, 2, 7]).like([]).order(), [7, 4, 2])
        self.assertEqual(ShardMap([[4, 2], [7]]).like([]).groups(), [[2], [4], [7]])
        for kind in (OrderList, ShardMap):
            self.assertEqual(kind([]).like([]), kind([]))

    def test_tuples_that_are_no_places(self):
        for contents in (OrderList(KEYS), ShardMap([KEYS]), ShardMap([[1, 9], [4], [6]])):
            for place in NO_PLACES:
                self.assert_raises(UnknownPlace, {"place": place}, contents.like, [place])
                # The first such tuple is told, and before words that no contents have.
                words = [(1, 4), (4, 6), place, (4, 1), (1, 9)]
                self.assert_raises(UnknownPlace, {"place": place}, contents.like, words)
            self.assert_raises(UnknownPlace, {"place": (9, 1)}, contents.like, [(9, 1), (6, 1), (1, 4)])

    def test_the_words_stay_as_they_were(self):
        for contents in (OrderList(KEYS), ShardMap([KEYS])):
            words = contents.words()[::-1]
            before = list(words)
            found = contents.like(words)
            self.assertEqual(words, before)
            words.clear()
            found.words().clear()
            self.assertEqual(found, contents)


class ForcedTest(DriftCase):
    def check(self, contents, every, place, pinned):
        """The answer for the place, against all contents with the same words at the pinned places."""
        mine = contents.words()
        fitting = [
            other for other in every if all((pin in other) == (pin in mine) for pin in pinned)
        ]
        found = {place in other for other in fitting}
        wanted = found.pop() if len(found) == 1 else None
        self.assertIs(contents.forced(place, pinned), wanted)
        return wanted

    def test_every_set_of_pinned_places(self):
        counts = {True: 0, False: 0, None: 0}
        for _, contents, _, every in samples(4):
            places = contents.places()
            codes = range(1 << len(places)) if len(every) < 10 else range(0, 64, 3)
            for code in codes:
                for place in places:
                    counts[self.check(contents, every, place, chosen(places, code))] += 1
        self.assertGreater(min(counts.values()), 500)

    def test_some_sets_of_pinned_places_of_five_keys(self):
        counts = {True: 0, False: 0, None: 0}
        chance = random.Random(2)
        for _, contents, _, every in list(samples(5))[::3]:
            places = contents.places()
            for _ in range(8 if len(places) == 10 else 0):
                pinned = chance.sample(places, chance.randrange(6)) * chance.choice((1, 2))
                counts[self.check(contents, every, chance.choice(places), pinned)] += 1
        self.assertGreater(min(counts.values()), 40)

    def test_pinned_places_that_are_off_bind_as_well(self):
        contents = OrderList([9, 6, 4, 1])
        self.assertEqual(contents.words(), [])
        self.assertIs(contents.forced((1, 9), [(1, 4), (4, 9)]), False)
        self.assertIs(contents.forced((1, 9), [(1, 4), (6, 9)]), None)
        contents = ShardMap([[1, 4], [6], [9]])
        self.assertIs(contents.forced((1, 6), [(1, 4), (4, 6)]), False)
        self.assertIs(contents.forced((6, 9), [(4, 6), (4, 9)]), None)
        self.assertIs(contents.forced((6, 9), [(6, 9)]), False)

    def test_orders_and_repeats_have_no_effect(self):
        contents = OrderList([1, 6, 4, 9])
        for pinned in ([(1, 6), (4, 6), (4, 9)], [(4, 9), (4, 6), (1, 6)], [(4, 6), (1, 6), (4, 6), (4, 9), (1, 6)]):
            self.assertIs(contents.forced((1, 9), pinned), True)
            self.assertIs(contents.forced((1, 4), pinned), True)
        contents = ShardMap([[1, 6, 9], [4]])
        for pinned in ([(1, 6), (6, 9), (4, 9)], [(4, 9), (6, 9), (1, 6)], [(1, 6), (4, 9), (6, 9), (6, 9), (1, 6)]):
            self.assertIs(contents.forced((1, 9), pinned), True)
            self.assertIs(contents.forced((1, 4), pinned), False)

    def test_nothing_pinned(self):
        for contents in (OrderList(KEYS), ShardMap([KEYS]), ShardMap([[1], [4, 6, 9]])):
            for place in contents.places():
                self.assertIsNone(contents.forced(place, []))

    def test_unknown_places(self):
        for contents in (OrderList(KEYS), ShardMap([KEYS])):
            for place in NO_PLACES:
                self.assert_raises(UnknownPlace, {"place": place}, contents.forced, place, [])
                self.assert_raises(UnknownPlace, {"place": place}, contents.forced, place, [(9, 1), (1, 4)])
                self.assert_raises(UnknownPlace, {"place": place}, contents.forced, (1, 4), [place])
                self.assert_raises(UnknownPlace, {"place": place}, contents.forced, (1, 4), [(1, 4), place, (9, 1)])

    def test_the_pinned_places_stay_as_they_were(self):
        for contents in (OrderList(KEYS), ShardMap([KEYS])):
            pinned = [(4, 6), (1, 4), (4, 6)]
            contents.forced((1, 6), pinned)
            self.assertEqual(pinned, [(4, 6), (1, 4), (4, 6)])


class ConflictsTest(DriftCase):
    def test_no_conflict_in_the_words_of_contents(self):
        for _, contents, _, every in list(samples(5))[::7]:
            for words in every:
                self.assertEqual(contents.conflicts(words), [])

    def test_a_conflict_exactly_where_no_contents_have_the_words(self):
        for _, contents, _, every in list(samples(4))[::5]:
            places = contents.places()
            for code in range(1 << len(places)):
                words = chosen(places, code)
                self.assertIs(contents.conflicts(words) == [], words in every)

    def test_tuples_that_are_no_places_and_repeats_have_no_effect(self):
        for contents in (OrderList(KEYS), ShardMap([KEYS]), ShardMap([[1], [4, 6, 9]])):
            places = contents.places()
            for code in range(64):
                words = chosen(places, code)
                wanted = contents.conflicts(words)
                given = shuffled(words + NO_PLACES + words[::2], code)
                before = list(given)
                self.assertEqual(contents.conflicts(given), wanted)
                self.assertEqual(given, before)
                self.assertEqual(wanted, sorted(set(wanted)))
                for conflict in wanted:
                    self.assertEqual((type(conflict), list(conflict)), (tuple, sorted(set(conflict))))
                    self.assertEqual(len(conflict), 3)


class ChangesTest(DriftCase):
    def test_ascending_by_their_words_and_to_and_fro(self):
        for kind, contents, words, _ in samples(5):
            found = contents.changes()
            self.assertIs(type(found), list)
            self.assertEqual([other.words() for other in found], sorted(other.words() for other in found))
            for other in found:
                self.assertIs(type(other), kind)
                self.assertEqual(other.all_keys(), contents.all_keys())
                self.assertNotEqual(other.words(), words)
                self.assertIn(contents, other.changes())
            self.assertEqual(contents.words(), words)

    def test_no_change_between_two_changes(self):
        # No change turns words that another change, of fewer words, could turn alone.
        for _, contents, words, every in list(samples(4))[::3]:
            turned = [set(words) ^ set(other.words()) for other in contents.changes()]
            apart = [set(words) ^ set(other) for other in every if other != words]
            least = [one for one in apart if not any(other < one for other in apart)]
            self.assertTrue(all(one in turned for one in least))


if __name__ == "__main__":
    unittest.main()
