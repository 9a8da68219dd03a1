"""What a majority of replicas says of each two keys."""

from quorumdrift.basics import check_known, check_like_keys, check_pairs_known, pairs_in
from quorumdrift.errors import InvalidReading
from quorumdrift.lists import check_list


class Reading:
    """For each two keys, which one comes first."""

    def __init__(self, all_keys, pairs):
        check_list(all_keys)
        check_pairs_known(all_keys, pairs)
        self._all_keys = sorted(all_keys)
        self._read = {(x, y): True for x, y in pairs}
        wrong = first_wrong_pair(self._all_keys, self._read)
        if wrong is not None:
            raise InvalidReading(wrong)

    def all_keys(self):
        """The keys, ascending."""
        return list(self._all_keys)

    def before(self, x, y):
        """True if x is read before y."""
        check_known(self._all_keys, x)
        check_known(self._all_keys, y)
        return (x, y) in self._read

    def pairs(self):
        """The tuples (x, y) with x read before y, ascending."""
        return sorted(self._read)

    def order(self):
        """The list in which every pair stands as it is read, or None."""
        parts = self.components()
        if len(parts) < len(self._all_keys):
            return None
        return [part[0] for part in parts]

    def cycles(self):
        """The cycles (x, y, z), x the least of the three, ascending."""
        return [
            (x, y, z)
            for x, y in self.pairs() if x < y
            for z in self._all_keys if x < z and self._closes(x, y, z)
        ]

    def pinned(self):
        """The pairs that lie in a cycle, as they are read, ascending."""
        return [pair for pair in self.pairs() if self._is_pinned(pair)]

    def free(self):
        """The pairs that lie in no cycle, as they are read, ascending."""
        return [pair for pair in self.pairs() if not self._is_pinned(pair)]

    def components(self):
        """The keys in lists, each with the keys between which read pairs lead to and fro."""
        parts = []
        rest = list(self._all_keys)
        while rest:
            part = leading_keys(self._read, rest)
            parts.append(part)
            rest = [key for key in rest if key not in part]
        return parts

    def accepts(self, order):
        """True if every two neighbours of the list stand as they are read."""
        check_list(order)
        check_like_keys(self._all_keys, order)
        return all([pair in self._read for pair in zip(order, order[1:])])

    def each_path(self):
        """Yield the lists of all keys that the reading accepts, ascending."""
        order = []
        yield from each_path_from(self._read, order, self._all_keys)

    def __eq__(self, other):
        return isinstance(other, Reading) and self._all_keys == other._all_keys and self._read == other._read

    def __len__(self):
        return len(self._all_keys)

    def __contains__(self, x):
        return x in self._read

    def __neg__(self):
        return Reading(self._all_keys, [(y, x) for x, y in self._read])

    def __sub__(self, other):
        check_known(self._all_keys, other)
        others = [key for key in self._all_keys if key != other]
        return Reading(others, [(x, y) for x, y in self._read if x != other and y != other])

    def _closes(self, x, y, z):
        return (y, z) in self._read and (z, x) in self._read

    def _is_pinned(self, pair):
        x, y = pair
        return any([self._closes(x, y, z) for z in self._all_keys])


def read(state):
    """The reading of a state: each pair as at least two replicas have it."""
    votes = {}
    for order in state.lists():
        for pair in pairs_in(order):
            votes[pair] = votes.get(pair, 0) + 1
    return Reading(state.all_keys(), [pair for pair in votes if votes[pair] >= 2])


def pairs_against(reading, order):
    """The tuples (x, y), ascending, with x read before y but y before x in the list."""
    return sorted([(x, y) for y, x in pairs_in(order) if reading.before(x, y)])


def first_wrong_pair(all_keys, given):
    """The least pair that is not given in exactly one direction, or is given of one key; or None."""
    for place, x in enumerate(all_keys):
        if (x, x) in given:
            return (x, x)
        for y in all_keys[place + 1:]:
            if ((x, y) in given) == ((y, x) in given):
                return (x, y)
    return None


def leading_keys(given, rest):
    """The first component of the rest: the fewest keys that are read before all others, ascending."""
    # These keys are each read before more keys than any of the others, so they come first by that number.
    many = {key: len([other for other in rest if (key, other) in given]) for key in rest}
    ranked = sorted(rest, key=lambda key: many[key], reverse=True)
    size = 1
    while not all([(x, y) in given for x in ranked[:size] for y in ranked[size:]]):
        size += 1
    return sorted(ranked[:size])


def each_path_from(given, order, rest):
    """Yield the lists that begin with order and go on with the rest, all neighbours as they are read."""
    if not rest:
        yield list(order)
    # Only from a leading key do read pairs lead on through the whole rest, so no beginning is in vain.
    for key in leading_keys(given, rest):
        if not order or (order[-1], key) in given:
            longer = order + [key]
            others = [other for other in rest if other != key]
            yield from each_path_from(given, longer, others)
