"""Contents that are demands on keys: for each two keys, whether one must come before the other."""

from quorumdrift.contents import Contents, check_places
from quorumdrift.errors import InvalidContents
from quorumdrift.relations import Relation


class DependencySet(Contents):
    """Pairs (x, y) of keys, x must come before y, with all pairs that follow from others."""

    KIND = "dependencies"

    def __init__(self, all_keys, pairs):
        super().__init__(all_keys)
        if not is_allowed(all_keys, pairs):
            raise InvalidContents()
        self._pairs = sorted(set(pairs))

    def pairs(self):
        """The pairs, ascending."""
        return list(self._pairs)

    def all_keys(self):
        """The keys, ascending."""
        return super().all_keys()

    def label(self):
        """The kind and the number of keys."""
        return self.KIND + ": " + super().label()

    def places(self):
        """The tuples (x, y) of two different keys, ascending."""
        return ordered_pairs(self.all_keys())

    def words(self):
        """The pairs, ascending."""
        return self.pairs()

    def like(self, words):
        """The DependencySet of the same keys that has these words."""
        check_places(self.places(), words)
        return DependencySet(self.all_keys(), words)

    def changes(self):
        """The sets with one pair put in or struck out, ascending by their words."""
        all_keys = self.all_keys()
        turned = [turned_at(self._pairs, place) for place in self.places()]
        found = [DependencySet(all_keys, pairs) for pairs in turned if is_allowed(all_keys, pairs)]
        return sorted(found, key=lambda contents: contents.words())

    def conflicts(self, words):
        """The places of each chain of two pairs whose third pair is missing in the words, ascending."""
        return sorted([
            tuple(sorted([(x, y), (y, z), (x, z)]))
            for x, y, z in ordered_triples(self.all_keys())
            if (x, y) in words and (y, z) in words and (x, z) not in words
        ])

    def forced(self, place, pinned):
        """The word that all sets with these words at the pinned places have at the place, or None."""
        check_places(self.places(), [place] + pinned)
        on = [pair for pair in pinned if pair in self._pairs]
        if place in Relation(self.all_keys(), on):
            return True
        # The least set in which the place is on has what follows from it and from the pinned words.
        least = Relation(self.all_keys(), on + [place]).closed()
        if all([x != y and ((x, y) in on or (x, y) not in pinned) for x, y in least]):
            return None
        return False

    def __eq__(self, other):
        return (
            isinstance(other, DependencySet)
            and self._all_keys == other._all_keys
            and self._pairs == other._pairs
        )

    def __len__(self):
        return len(self.words())

    def __contains__(self, x):
        return x in self.words()


def ordered_pairs(all_keys):
    """The tuples (x, y) of two different keys, in the order of the keys."""
    return [(x, y) for x in all_keys for y in all_keys if x != y]


def ordered_triples(all_keys):
    """The tuples (x, y, z) of three different keys, in the order of the keys."""
    return [(x, y, z) for x, y in ordered_pairs(all_keys) for z in all_keys if z not in (x, y)]


def is_allowed(all_keys, pairs):
    """True if the pairs have known keys, no key before itself, and each pair that follows from two others."""
    if not all([x in all_keys and y in all_keys for x, y in pairs]):
        return False
    given = {pair: True for pair in pairs}
    # Where (x, y) and (y, x) are given, (x, x) follows, so that it is enough to look for that.
    followers = {key: [y for x, y in pairs if x == key] for key in all_keys}
    return all([x != y and all([(x, z) in given for z in followers[y]]) for x, y in pairs])


def turned_at(pairs, place):
    """The pairs without the place, or with it if they do not have it."""
    others = [pair for pair in pairs if pair != place]
    return others if place in pairs else others + [place]
