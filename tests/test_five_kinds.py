"""Point 29 once more, for all five kinds of contents alike, against the lists of all contents of some keys."""

import random
import unittest

from quorumdrift.contents import Contents
from quorumdrift.errors import InvalidContents, UnknownPlace
from quorumdrift.shardmaps import ShardMap
from quorumdrift.tierlists import TierList
from tests.helpers import DriftCase, shuffled
from tests.kinds import FIVE_KINDS, chosen, conflicts_of, contents_of, next_words

KEYS = [20, 1, 9, 4]
# Neither is one of these a place of the keys 1, 4, 9, for any kind.
NO_PLACES = [(1, 1), (9, 9), (1, 2), (2, 1), (0, 4), (9, 10), (-1, 1), (), (1, 4, 9), (1, 4, 4), (3,), (-1,), (10000,)]


def each_contents(most):
    """Each contents of few keys: (kind, keys, contents, its words, the words of all contents of the keys)."""
    for kind in FIVE_KINDS:
        for size in range(most + 1):
            keys = KEYS[:size]
            every = contents_of(kind, keys)
            for words, contents in every.items():
                yield kind, keys, contents, list(words), every


class WordsTest(DriftCase):
    def test_keys_places_words_and_label(self):
        for kind, keys, contents, words, _ in each_contents(4):
            self.assertIs(type(contents), kind.owner)
            self.assertEqual(contents.all_keys(), sorted(keys))
            self.assertEqual(contents.places(), kind.places(keys))
            self.assertEqual(contents.words(), words)
            self.assertEqual(contents.label(), f"{kind.owner.KIND}: {len(keys)} keys")
            for result in (contents.places(), contents.words()):
                self.assertTrue(type(result) is list and all(type(place) is tuple for place in result))

    def test_kinds(self):
        names = {kind.owner.KIND for kind in FIVE_KINDS}
        self.assertEqual(names, {"orders", "shards", "dependencies", "caches", "tiers"})
        for kind in FIVE_KINDS:
            self.assertEqual(kind.owner.__bases__, (Contents,))

    def test_operators(self):
        for kind, keys, contents, words, _ in each_contents(3):
            self.assertEqual(len(contents), len(words))
            for place in kind.places(keys):
                self.assertIs(place in contents, place in words)
            for place in NO_PLACES:
                self.assertIs(place in contents, False)

    def test_equal(self):
        every = [entry[:4] for entry in each_contents(3)]
        again = [entry[:4] for entry in each_contents(3)]
        for kind, keys, contents, words in every:
            book = kind.make(keys, []).book() if kind.owner.KIND == "caches" else None
            for other_kind, other_keys, other, other_words in again:
                same = (kind.owner, keys, words) == (other_kind.owner, other_keys, other_words)
                if same and book is not None:
                    same = book == other.book()
                self.assertIs(contents == other, same)
                self.assertIs(contents != other, not same)
            for other in (Contents(keys), None, "", 0, [], words, tuple(words), kind.owner):
                self.assertIs(contents == other, False)
                self.assertIs(contents != other, True)
                self.assertIs(other == contents, False)

    def test_equal_words_of_unlike_keys(self):
        for kind in FIVE_KINDS:
            for first, second in (([1, 4], [1, 5]), ([], [3]), ([1, 4, 9], [1, 4]), ([1, 4], [1, 4, 9])):
                one, other = contents_of(kind, first), contents_of(kind, second)
                for words in one:
                    if words in other:
                        self.assertIs(one[words] == other[words], False)


class LikeTest(DriftCase):
    def test_every_set_of_places_of_three_keys(self):
        counts = {True: 0, False: 0}
        for kind, keys, contents, _, every in each_contents(3):
            places = contents.places()
            for code in range(1 << len(places)):
                words = chosen(places, code)
                counts[tuple(words) in every] += 1
                given = shuffled(words, code)
                before = list(given)
                if tuple(words) in every:
                    found = contents.like(given)
                    self.assertIs(type(found), kind.owner)
                    self.assertEqual(found, every[tuple(words)])
                else:
                    self.assert_raises(InvalidContents, {}, contents.like, given)
                self.assertEqual(given, before)
        self.assertGreater(min(counts.values()), 300)

    def test_some_sets_of_places_of_four_keys(self):
        counts = {True: 0, False: 0}
        chance = random.Random(1)
        for _, _, contents, _, every in list(each_contents(4))[::11]:
            places = contents.places()
            for _ in range(40):
                words = sorted(chance.sample(places, chance.randrange(len(places) + 1)))
                wanted = tuple(words) in every
                counts[wanted] += 1
                if wanted:
                    self.assertEqual(contents.like(words[::-1]), every[tuple(words)])
                else:
                    self.assert_raises(InvalidContents, {}, contents.like, words)
            for words in list(every)[::9]:
                self.assertEqual(contents.like(shuffled(words, 2)), every[words])
        self.assertGreater(min(counts.values()), 100)

    def test_tuples_that_are_no_places(self):
        for kind in FIVE_KINDS:
            every = contents_of(kind, [1, 4, 9])
            for words, contents in every.items():
                for place in NO_PLACES:
                    self.assert_raises(UnknownPlace, {"place": place}, contents.like, [place])
                    # The first one is told, and before words that no contents have.
                    given = contents.places() + [place, (9, 9, 9)]
                    self.assert_raises(UnknownPlace, {"place": place}, contents.like, given)
                    self.assert_raises(UnknownPlace, {"place": place}, contents.like, list(words) + [place, (0,)])

    def test_no_words(self):
        for kind, keys, contents, _, every in each_contents(4):
            self.assertEqual(contents.like([]), every[()])

    def test_places_of_another_kind(self):
        for kind in FIVE_KINDS:
            for contents in contents_of(kind, [1, 4]).values():
                wrong = (1, 4) if kind.owner.KIND == "caches" else (1,)
                self.assert_raises(UnknownPlace, {"place": wrong}, contents.like, [wrong])
                if kind.owner.KIND in ("orders", "shards"):
                    self.assert_raises(UnknownPlace, {"place": (4, 1)}, contents.like, [(4, 1)])


class ChangesTest(DriftCase):
    def test_against_all_contents(self):
        changed = 0
        for kind in FIVE_KINDS:
            for size in range(5):
                every = contents_of(kind, KEYS[:size])
                for words, others in next_words(kind, KEYS[:size]).items():
                    found = every[words].changes()
                    self.assertIs(type(found), list)
                    self.assertEqual(found, [every[other] for other in others])
                    self.assertEqual([type(other) for other in found], [kind.owner] * len(others))
                    self.assertEqual(every[words].words(), list(words))
                    changed += len(others)
        self.assertGreater(changed, 1500)

    def test_changes_of_eight_keys(self):
        for kind in FIVE_KINDS:
            keys = list(range(8))
            contents = kind.make(keys, keys if kind.owner.KIND == "orders" else [])
            if kind.owner in (ShardMap, TierList):
                contents = kind.owner([[0, 1, 2], [3], [4, 5, 6, 7]])
            found = contents.changes()
            self.assertEqual([other.words() for other in found], sorted(other.words() for other in found))
            for other in found:
                self.assertIn(contents, other.changes())
                self.assertNotEqual(contents, other)


class ConflictsTest(DriftCase):
    def test_every_set_of_places_of_three_keys(self):
        for kind, keys, contents, _, _ in list(each_contents(3))[::2]:
            places = contents.places()
            for code in range(1 << len(places)):
                words = chosen(places, code)
                self.assertEqual(contents.conflicts(words), conflicts_of(kind, keys, words))

    def test_some_sets_of_places_of_more_keys(self):
        chance = random.Random(5)
        for kind in FIVE_KINDS:
            for keys in (KEYS, KEYS + [0], KEYS + [0, 9999, 2, 7]):
                form = keys if kind.owner.KIND == "orders" else []
                contents = kind.owner([keys]) if kind.owner in (ShardMap, TierList) else kind.make(keys, form)
                for _ in range(12):
                    places = contents.places()
                    words = chance.sample(places, chance.randrange(len(places) + 1))
                    wanted = conflicts_of(kind, keys, words)
                    self.assertEqual(contents.conflicts(words), wanted)
                    self.assertEqual(contents.conflicts(words[::-1] + words[::2]), wanted)
                    for conflict in wanted:
                        self.assertEqual((type(conflict), list(conflict)), (tuple, sorted(set(conflict))))

    def test_tuples_that_are_no_places_and_repeats_have_no_effect(self):
        for kind in FIVE_KINDS:
            contents = list(contents_of(kind, [1, 4, 9]).values())[0]
            places = contents.places()
            for code in range(1 << len(places)):
                words = chosen(places, code)
                given = shuffled(words + NO_PLACES + words[::2], code)
                before = list(given)
                self.assertEqual(contents.conflicts(given), contents.conflicts(words))
                self.assertEqual(given, before)

    def test_no_conflict_in_the_words_of_contents(self):
        for _, _, contents, _, every in list(each_contents(4))[::13]:
            for words in every:
                self.assertEqual(contents.conflicts(list(words)), [])

    def test_few_keys_have_no_conflicts(self):
        for kind in FIVE_KINDS:
            for keys in ([], [4], [4, 1]):
                for contents in contents_of(kind, keys).values():
                    self.assertEqual(contents.conflicts(kind.places(keys)), [])
                    self.assertEqual(contents.conflicts([(1, 4), (4, 9), (1,), (4,), (9,)]), [])


class ForcedTest(DriftCase):
    def check(self, contents, every, place, pinned):
        """The answer for the place, against all contents with the same words at the pinned places."""
        mine = contents.words()
        fitting = [words for words in every if all((pin in words) == (pin in mine) for pin in pinned)]
        found = {place in words for words in fitting}
        wanted = found.pop() if len(found) == 1 else None
        before = list(pinned)
        self.assertIs(contents.forced(place, pinned), wanted)
        self.assertEqual(pinned, before)
        return wanted

    def test_every_set_of_pinned_places_of_three_keys(self):
        counts = {(kind.owner, word): 0 for kind in FIVE_KINDS for word in (True, False, None)}
        for kind, _, contents, _, every in each_contents(3):
            places = contents.places()
            for code in range(1 << len(places)):
                for place in places:
                    counts[kind.owner, self.check(contents, every, place, chosen(places, code))] += 1
        self.assertGreater(min(counts.values()), 20)

    def test_some_sets_of_pinned_places_of_four_keys(self):
        counts = {(kind.owner, word): 0 for kind in FIVE_KINDS for word in (True, False, None)}
        chance = random.Random(2)
        for kind, keys, contents, _, every in each_contents(4):
            for _ in range(6 if len(keys) == 4 else 0):
                places = contents.places()
                pinned = chance.sample(places, chance.randrange(min(8, len(places) + 1)))
                # In any order, and with repeated places.
                pinned += pinned[:chance.randrange(3)]
                counts[kind.owner, self.check(contents, every, chance.choice(places), pinned)] += 1
        self.assertGreater(min(counts.values()), 10)

    def test_nothing_pinned(self):
        for kind, keys, contents, _, every in each_contents(3):
            for place in contents.places():
                self.assertIsNone(contents.forced(place, []))

    def test_unknown_places(self):
        for kind in FIVE_KINDS:
            for contents in list(contents_of(kind, [1, 4, 9]).values())[::4]:
                known = contents.places()[0]
                for place in NO_PLACES:
                    error = {"place": place}
                    self.assert_raises(UnknownPlace, error, contents.forced, place, [])
                    self.assert_raises(UnknownPlace, error, contents.forced, place, [(9, 9, 9), known])
                    self.assert_raises(UnknownPlace, error, contents.forced, known, [place])
                    self.assert_raises(UnknownPlace, error, contents.forced, known, [known, place, (9, 9, 9)])


if __name__ == "__main__":
    unittest.main()
