"""Contents that are ranks of keys: for each two keys, whether one stands in an earlier rank."""

from quorumdrift.contents import Contents, check_places
from quorumdrift.dependencysets import ordered_pairs, ordered_triples
from quorumdrift.errors import InvalidContents
from quorumdrift.relations import Relation
from quorumdrift.shardmaps import partings


class TierList(Contents):
    """Ranks of keys, first rank first, each key in one."""

    KIND = "tiers"

    def __init__(self, ranks):
        if [] in ranks:
            raise InvalidContents()
        super().__init__([key for rank in ranks for key in rank])
        self._ranks = [sorted(rank) for rank in ranks]

    def ranks(self):
        """The ranks, each ascending, first rank first."""
        return [list(rank) for rank in self._ranks]

    def all_keys(self):
        """The keys, ascending."""
        return super().all_keys()

    def label(self):
        """The kind and the number of keys."""
        return self.KIND + ": " + super().label()

    def places(self):
        """The tuples (x, y) of two different keys, ascending."""
        return ordered_pairs(self.all_keys())

    def words(self):
        """The places (x, y) with x in an earlier rank than y, ascending."""
        return sorted([
            (x, y)
            for place, rank in enumerate(self._ranks) for later in self._ranks[place + 1:]
            for x in rank for y in later
        ])

    def like(self, words):
        """The TierList of the same keys that has these words."""
        check_places(self.places(), words)
        found = TierList(ranks_by(self.all_keys(), words))
        if found.words() != sorted(set(words)):
            raise InvalidContents()
        return found

    def changes(self):
        """The lists with two neighbouring ranks joined or one rank parted in two, ascending by their words."""
        found = []
        for place, rank in enumerate(self._ranks):
            earlier = self._ranks[:place]
            later = self._ranks[place + 1:]
            if later:
                found.append(TierList(earlier + [rank + later[0]] + later[1:]))
            for first, second in partings(rank):
                found.append(TierList(earlier + [first, second] + later))
                found.append(TierList(earlier + [second, first] + later))
        return sorted(found, key=lambda contents: contents.words())

    def conflicts(self, words):
        """The places of each three keys that no ranks have so, ascending."""
        return sorted([
            tuple(sorted([(x, y), (y, z), (x, z)]))
            for x, y, z in ordered_triples(self.all_keys())
            if is_unranked((x, y) in words, (y, z) in words, (x, z) in words)
        ])

    def forced(self, place, pinned):
        """The word that all lists with these words at the pinned places have at the place, or None."""
        check_places(self.places(), [place] + pinned)
        words = self.words()
        on = [pair for pair in pinned if pair in words]
        # A pinned place (x, y) that is off says that y stands in no later rank than x.
        weak = Relation(self.all_keys(), on + [(y, x) for x, y in pinned if (x, y) not in on])
        x, y = place
        if any([follows(weak, x, u) and follows(weak, v, y) for u, v in on]):
            return True
        return False if weak.implies(y, x) else None

    def __eq__(self, other):
        return isinstance(other, TierList) and self._ranks == other._ranks

    def __len__(self):
        return len(self.words())

    def __contains__(self, x):
        return x in self.words()


def ranks_by(all_keys, words):
    """The ranks of the keys by how many keys stand before each, as the words say."""
    ranks = {}
    many = {key: len([x for x in all_keys if (x, key) in words]) for key in all_keys}
    for key in sorted(all_keys, key=lambda key: many[key]):
        ranks.setdefault(many[key], []).append(key)
    return list(ranks.values())


def is_unranked(first, second, outer):
    """True if three keys x, y, z cannot have these words at (x, y), (y, z) and (x, z)."""
    return first == second and outer != first


def follows(weak, x, y):
    """True if y is x, or is implied to stand in no earlier rank than x."""
    return x == y or weak.implies(x, y)
