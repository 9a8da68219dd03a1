"""Contents that are keys held: for each key, whether it is held."""

from quorumdrift.contents import Contents, check_places
from quorumdrift.errors import InvalidContents


class CacheSet(Contents):
    """The keys that are held, and a book of three keys each that must not be held together."""

    KIND = "caches"

    def __init__(self, all_keys, held, book):
        super().__init__(all_keys)
        triples = [tuple(sorted(triple)) for triple in book]
        if not is_book(all_keys, triples) or not is_held(all_keys, held, triples):
            raise InvalidContents()
        self._held = sorted(held)
        self._book = sorted(set(triples))

    def held(self):
        """The keys that are held, ascending."""
        return list(self._held)

    def book(self):
        """The tuples of three keys that must not be held together, each ascending, ascending."""
        return list(self._book)

    def all_keys(self):
        """The keys, ascending."""
        return super().all_keys()

    def label(self):
        """The kind and the number of keys."""
        return self.KIND + ": " + super().label()

    def places(self):
        """The tuples (key,), ascending."""
        return [(key,) for key in self.all_keys()]

    def words(self):
        """The places whose key is held, ascending."""
        return [(key,) for key in self._held]

    def like(self, words):
        """The CacheSet of the same keys and book that has these words."""
        places = self.places()
        check_places(places, words)
        return CacheSet(self.all_keys(), [place[0] for place in places if place in words], self._book)

    def changes(self):
        """The sets with one key put in or taken out, ascending by their words."""
        all_keys = self.all_keys()
        turned = [with_key_turned(self._held, key) for key in all_keys]
        found = [CacheSet(all_keys, held, self._book) for held in turned if is_free(held, self._book)]
        return sorted(found, key=lambda contents: contents.words())

    def conflicts(self, words):
        """The places of each tuple of the book that the words have on, ascending."""
        triples = [((x,), (y,), (z,)) for x, y, z in self._book]
        return [triple for triple in triples if all([place in words for place in triple])]

    def forced(self, place, pinned):
        """The word that all sets with these words at the pinned places have at the place, or None."""
        check_places(self.places(), [place] + pinned)
        if place in pinned:
            return place in self.words()
        held = [key for key in self._held if (key,) in pinned]
        return None if is_free(held + [place[0]], self._book) else False

    def __eq__(self, other):
        return (
            isinstance(other, CacheSet)
            and self._all_keys == other._all_keys
            and self._held == other._held
            and self._book == other._book
        )

    def __len__(self):
        return len(self.words())

    def __contains__(self, x):
        return x in self.words()


def is_book(all_keys, triples):
    """True if each tuple has known keys and no two equal ones."""
    return all([
        len(set(triple)) == len(triple) and all([key in all_keys for key in triple])
        for triple in triples
    ])


def is_held(all_keys, held, triples):
    """True if the keys are known, no key stands twice, and no tuple has only keys of them."""
    if len(set(held)) < len(held) or not all([key in all_keys for key in held]):
        return False
    return is_free(held, triples)


def is_free(held, triples):
    """True if no tuple has only keys that are held."""
    return not any([all([key in held for key in triple]) for triple in triples])


def with_key_turned(held, key):
    """The keys held without this one, or with it if it is not held."""
    others = [other for other in held if other != key]
    return others if key in held else others + [key]
