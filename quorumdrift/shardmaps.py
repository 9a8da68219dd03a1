"""Contents that are groups of keys: for each two keys, whether they are in one group."""

from quorumdrift.basics import pairs_in, triples_in
from quorumdrift.contents import Contents, check_places
from quorumdrift.errors import InvalidContents


class ShardMap(Contents):
    """Groups of keys, each key in one."""

    KIND = "shards"

    def __init__(self, groups):
        if [] in groups:
            raise InvalidContents()
        super().__init__([key for group in groups for key in group])
        self._groups = sorted([sorted(group) for group in groups])

    def groups(self):
        """The groups, each ascending, by their least keys."""
        return [list(group) for group in self._groups]

    def all_keys(self):
        """The keys, ascending."""
        return super().all_keys()

    def label(self):
        """The kind and the number of keys."""
        return self.KIND + ": " + super().label()

    def places(self):
        """The tuples (x, y) with x < y, ascending."""
        return pairs_in(self.all_keys())

    def words(self):
        """The places (x, y) with both keys in one group, ascending."""
        return sorted([pair for group in self._groups for pair in pairs_in(group)])

    def like(self, words):
        """The ShardMap of the same keys that has these words."""
        check_places(self.places(), words)
        found = ShardMap(groups_by(leaders(self.all_keys(), words)))
        if found.words() != sorted(set(words)):
            raise InvalidContents()
        return found

    def changes(self):
        """The maps with two groups joined or one group parted in two, ascending by their words."""
        found = []
        for first, second in pairs_in(self._groups):
            others = [group for group in self._groups if group != first and group != second]
            found.append(ShardMap(others + [first + second]))
        for group in self._groups:
            others = [other for other in self._groups if other != group]
            found.extend([ShardMap(others + [first, second]) for first, second in partings(group)])
        return sorted(found, key=lambda contents: contents.words())

    def conflicts(self, words):
        """The places of each three keys of which the words have exactly two on, ascending."""
        triples = [((x, y), (x, z), (y, z)) for x, y, z in triples_in(self.all_keys())]
        return [triple for triple in triples if [place in words for place in triple].count(True) == 2]

    def forced(self, place, pinned):
        """The word that all maps with these words at the pinned places have at the place, or None."""
        places = self.places()
        check_places(places, [place] + pinned)
        words = self.words()
        leader = leaders(self.all_keys(), [pair for pair in pinned if pair in words])
        apart = [sorted([leader[x], leader[y]]) for x, y in pinned if (x, y) not in words]
        first, second = sorted([leader[key] for key in place])
        if first == second:
            return True
        return False if [first, second] in apart else None

    def __eq__(self, other):
        return isinstance(other, ShardMap) and self._groups == other._groups

    def __len__(self):
        return len(self.words())

    def __contains__(self, x):
        return x in self.words()


def leaders(all_keys, joined):
    """For each key one key of its group, the same for the whole group, if these pairs of keys are joined."""
    leader = {key: key for key in all_keys}
    for x, y in joined:
        kept = leader[x]
        given_up = leader[y]
        leader = {key: kept if leader[key] == given_up else leader[key] for key in leader}
    return leader


def groups_by(leader):
    """The groups of the keys that have one leader."""
    groups = {}
    for key in leader:
        groups.setdefault(leader[key], []).append(key)
    return list(groups.values())


def partings(group):
    """The tuples of two lists in which a group can be parted; its first key stands in the first of them."""
    found = []
    for code in range(1, 1 << (len(group) - 1)):
        second = [key for place, key in enumerate(group[1:]) if code >> place & 1]
        found.append(([key for key in group if key not in second], second))
    return found
