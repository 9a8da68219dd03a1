"""Contents that are lists: for each two keys, whether the lesser stands first."""

from quorumdrift.basics import pairs_in, triples_in
from quorumdrift.contents import Contents, check_places
from quorumdrift.errors import InvalidContents
from quorumdrift.lists import swap_at
from quorumdrift.relations import Relation


class OrderList(Contents):
    """A list of keys."""

    KIND = "orders"

    def __init__(self, order):
        super().__init__(order)
        self._order = list(order)

    def order(self):
        """The list."""
        return list(self._order)

    def all_keys(self):
        """The keys, ascending."""
        return super().all_keys()

    def label(self):
        """The kind and the number of keys."""
        return self.KIND + ": " + super().label()

    def places(self):
        """The tuples (x, y) with x < y, ascending."""
        return pairs_in(self.all_keys())

    def words(self):
        """The places (x, y) with x before y in the list, ascending."""
        return sorted([(x, y) for x, y in pairs_in(self._order) if x < y])

    def like(self, words):
        """The OrderList of the same keys that has these words."""
        places = self.places()
        check_places(places, words)
        # The more keys a key stands before, the earlier it stands.
        earlier = [x if (x, y) in words else y for x, y in places]
        found = OrderList(sorted(self.all_keys(), key=lambda key: earlier.count(key), reverse=True))
        if found.words() != sorted(set(words)):
            raise InvalidContents()
        return found

    def changes(self):
        """The lists with two neighbours exchanged, ascending by their words."""
        found = [OrderList(swap_at(self._order, index)) for index in range(len(self._order) - 1)]
        return sorted(found, key=lambda contents: contents.words())

    def conflicts(self, words):
        """The places of each three keys that the words read in a circle, ascending."""
        return [
            ((x, y), (x, z), (y, z))
            for x, y, z in triples_in(self.all_keys())
            if is_circle((x, y) in words, (x, z) in words, (y, z) in words)
        ]

    def forced(self, place, pinned):
        """The word that all lists with these words at the pinned places have at the place, or None."""
        places = self.places()
        check_places(places, [place] + pinned)
        words = self.words()
        relation = Relation(self.all_keys(), [(x, y) if (x, y) in words else (y, x) for x, y in pinned])
        x, y = place
        if relation.implies(x, y):
            return True
        return False if relation.implies(y, x) else None

    def __eq__(self, other):
        return isinstance(other, OrderList) and self._order == other._order

    def __len__(self):
        return len(self.words())

    def __contains__(self, x):
        return x in self.words()


def is_circle(first, outer, second):
    """True if three keys x < y < z are read in a circle by their words at (x, y), (x, z) and (y, z)."""
    return first == second and outer != first
