"""Point 33: keys held as contents, and the book of those that must not be held together."""

import unittest
from itertools import combinations, permutations

from quorumdrift.cachesets import CacheSet
from quorumdrift.errors import InvalidContents, UnknownPlace
from tests.helpers import DriftCase
from tests.kinds import chosen, holdings
from tests.test_contents import NO_LISTS, WRONG_KEYS

KEYS = [4, 1, 9, 6]
BOOK = [(9, 1, 4), (6, 4, 9), (4, 9, 1)]


class CacheSetTest(DriftCase):
    def test_every_set_of_keys(self):
        for book in ([], BOOK, list(combinations(KEYS, 3)), [(1, 6, 9)]):
            allowed = holdings(KEYS, book)
            for many in range(5):
                for held in permutations(KEYS, many):
                    if sorted(held) in allowed:
                        contents = CacheSet(KEYS, list(held), book)
                        self.assertEqual(contents.held(), sorted(held))
                        self.assertEqual(contents.words(), [(key,) for key in sorted(held)])
                        self.assertEqual(contents.places(), [(1,), (4,), (6,), (9,)])
                        self.assertEqual(contents.all_keys(), [1, 4, 6, 9])
                    else:
                        self.assert_raises(InvalidContents, {}, CacheSet, KEYS, list(held), book)

    def test_a_book_in_any_order(self):
        for turned in permutations((1, 4, 9)):
            book = [(9, 6, 4), turned, (4, 6, 9), (9, 4, 1)]
            before = list(book)
            contents = CacheSet(KEYS, [6, 1], book)
            self.assertEqual(contents.book(), [(1, 4, 9), (4, 6, 9)])
            self.assertEqual(contents, CacheSet(sorted(KEYS), [1, 6], [(1, 4, 9), (4, 6, 9)]))
            self.assertEqual(book, before)
        self.assertEqual(CacheSet(KEYS, [], []).book(), [])

    def test_kind(self):
        self.assertEqual((CacheSet.KIND, CacheSet([1], [], []).KIND), ("caches", "caches"))
        self.assertEqual(CacheSet([], [], []).label(), "caches: 0 keys")
        self.assertEqual(CacheSet(KEYS, [1], BOOK).label(), "caches: 4 keys")

    def test_wrong_keys(self):
        for keys in WRONG_KEYS:
            self.assert_raises(InvalidContents, {}, CacheSet, keys, [], [])

    def test_keys_in_another_value_than_a_list(self):
        for keys in NO_LISTS:
            self.assert_raises(InvalidContents, {}, CacheSet, keys, [], [])

    def test_wrong_keys_held(self):
        for held in ([2], [1, 2], [-1], [10000], [1, 1], [1, 4, 1], [9, 4, 1, 4], [7, 7]):
            for book in ([], [(1, 4, 6)]):
                self.assert_raises(InvalidContents, {}, CacheSet, KEYS, held, book)
        self.assert_raises(InvalidContents, {}, CacheSet, [], [1], [])

    def test_wrong_books(self):
        for triple in ((1, 4, 5), (5, 4, 1), (1, 5, 4), (-1, 1, 4), (1, 1, 4), (1, 4, 1), (4, 1, 1), (6, 6, 6), (5, 5, 5)):
            for book in ([triple], [(1, 4, 6), triple], [triple, (1, 4, 6)]):
                self.assert_raises(InvalidContents, {}, CacheSet, KEYS, [], book)
                self.assert_raises(InvalidContents, {}, CacheSet, KEYS, [9], book)

    def test_all_three_of_a_tuple_held(self):
        for held in ([1, 4, 9], [9, 4, 1], [4, 9, 6, 1], [6, 9, 4]):
            self.assert_raises(InvalidContents, {}, CacheSet, KEYS, held, BOOK)
            self.assert_raises(InvalidContents, {}, CacheSet, KEYS, held, [BOOK[1], BOOK[0]])
            self.assertEqual(CacheSet(KEYS, held, []).held(), sorted(held))
        self.assertEqual(CacheSet(KEYS, [1, 4, 6], BOOK).held(), [1, 4, 6])

    def test_lists_are_copied(self):
        keys, held, book = list(KEYS), [9, 1], list(BOOK)
        contents = CacheSet(keys, held, book)
        keys.append(7)
        held.append(4)
        book.clear()
        for result in (contents.held(), contents.book(), contents.words(), contents.places(), contents.all_keys()):
            result.clear()
        contents.changes()[0].held().clear()
        contents.changes().clear()
        contents.like([(1,)]).book().clear()
        self.assertEqual(contents, CacheSet(KEYS, [1, 9], BOOK))
        self.assertEqual((contents.held(), contents.book()), ([1, 9], [(1, 4, 9), (4, 6, 9)]))

    def test_contents_of_unlike_books(self):
        one = CacheSet(KEYS, [1], BOOK)
        self.assertIs(one == CacheSet(KEYS, [1], BOOK[::-1]), True)
        self.assertIs(one == CacheSet(KEYS, [1], []), False)
        self.assertIs(one == CacheSet(KEYS, [1], BOOK[:1]), False)
        self.assertIs(one == CacheSet(KEYS, [], BOOK), False)
        self.assertIs(one == CacheSet(KEYS + [7], [1], BOOK), False)

    def test_the_book_goes_on(self):
        contents = CacheSet(KEYS, [1, 9], BOOK)
        for other in [contents.like([(4,), (1,)]), contents.like([])] + contents.changes():
            self.assertEqual(other.book(), contents.book())
        self.assert_raises(InvalidContents, {}, contents.like, [(9,), (1,), (4,)])
        self.assertEqual(CacheSet(KEYS, [1, 9], []).like([(9,), (1,), (4,)]).held(), [1, 4, 9])

    def test_changes(self):
        found = [other.held() for other in CacheSet(KEYS, [9, 1], BOOK).changes()]
        # 4 cannot be put in beside 1 and 9.
        self.assertEqual(found, [[1], [1, 6, 9], [9]])
        found = [other.held() for other in CacheSet(KEYS, [], BOOK).changes()]
        self.assertEqual(found, [[1], [4], [6], [9]])
        self.assertEqual([other.held() for other in CacheSet([7], [7], []).changes()], [[]])
        self.assertEqual(CacheSet([], [], []).changes(), [])

    def test_the_conflicts_are_the_tuples_of_the_book(self):
        contents = CacheSet(KEYS, [], BOOK)
        for code in range(16):
            words = chosen(contents.places(), code)
            wanted = [
                triple for triple in (((1,), (4,), (9,)), ((4,), (6,), (9,))) if set(triple) <= set(words)
            ]
            self.assertEqual(contents.conflicts(words), wanted)
            self.assertEqual(CacheSet(KEYS, [], []).conflicts(words), [])

    def test_the_conflicts_of_every_set_of_places_of_three_keys(self):
        for book, many in (([], 0), ([(3, 1, 2)], 1)):
            contents = CacheSet([1, 2, 3], [1], book)
            for code in range(8):
                wanted = [((1,), (2,), (3,))] if code == 7 and many else []
                self.assertEqual(contents.conflicts(chosen([(1,), (2,), (3,)], code)), wanted)

    def test_the_places_of_one_key(self):
        contents = CacheSet([5], [5], [])
        self.assertEqual((contents.places(), contents.words(), len(contents)), ([(5,)], [(5,)], 1))
        self.assertIs((5,) in contents, True)
        self.assertIs((5, 5) in contents, False)
        self.assertIs(() in contents, False)
        for place in ((), (4,), (5, 5), (5, 4), (5, 5, 5)):
            self.assert_raises(UnknownPlace, {"place": place}, contents.like, [(5,), place])
            self.assert_raises(UnknownPlace, {"place": place}, contents.forced, place, [])
            self.assert_raises(UnknownPlace, {"place": place}, contents.forced, (5,), [(5,), place])
        self.assertIs(contents.forced((5,), [(5,)]), True)
        self.assertIsNone(contents.forced((5,), []))
        self.assertIs(CacheSet([5], [], []).forced((5,), [(5,), (5,)]), False)

    def test_forced(self):
        contents = CacheSet(KEYS, [1, 9], BOOK)
        self.assertIs(contents.forced((4,), [(9,), (1,)]), False)
        self.assertIsNone(contents.forced((4,), [(1,)]))
        self.assertIsNone(contents.forced((4,), [(9,), (6,)]))
        # A tuple of the book without the key binds nothing.
        self.assertIsNone(contents.forced((6,), [(9,), (1,)]))
        self.assertIs(contents.forced((6,), [(6,)]), False)

    def test_eight_keys(self):
        keys = list(range(8))
        book = list(combinations(keys, 3))
        contents = CacheSet(keys, [2, 5], book)
        self.assertEqual((len(contents.places()), len(contents.book())), (8, 56))
        self.assertEqual([other.held() for other in contents.changes()], [[2], [5]])
        self.assertEqual(len(contents.conflicts(contents.places())), 56)
        self.assertIs(contents.forced((7,), [(2,), (5,)]), False)


if __name__ == "__main__":
    unittest.main()
