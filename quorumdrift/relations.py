"""Demands that some keys come before others in a list."""

from quorumdrift.basics import check_known, check_like_keys, check_pairs_known
from quorumdrift.errors import OutOfRange
from quorumdrift.lists import check_list


class Relation:
    """Demands on lists of the given keys, each a pair (x, y): x comes before y."""

    def __init__(self, all_keys, pairs):
        check_list(all_keys)
        check_pairs_known(all_keys, pairs)
        self._all_keys = sorted(all_keys)
        self._pairs = list(pairs)
        self._steps = {key: sorted({y for x, y in pairs if x == key}) for key in self._all_keys}
        self._followers = {key: reached_from(self._steps, key) for key in self._all_keys}

    def all_keys(self):
        """The keys, ascending."""
        return list(self._all_keys)

    def closed(self):
        """The implied pairs, ascending."""
        return [(x, y) for x in self._all_keys for y in self._followers[x]]

    def implies(self, x, y):
        """True if given pairs lead from x to y."""
        self._check_keys(x, y)
        return y in self._followers[x]

    def path(self, x, y):
        """The keys of the shortest, then least, chain of given pairs from x to y, or None."""
        self._check_keys(x, y)
        return shortest_path(self._steps, x, y)

    def cycle(self):
        """The keys of a shortest cycle, from its least key on, the least such list; or None."""
        starts = [key for key in self._all_keys if key in self._followers[key]]
        loops = [shortest_path(self._steps, key, key)[:-1] for key in starts]
        # The first of the shortest loops begins with the least key that lies in a shortest cycle.
        return min(loops, key=len, default=None)

    def keeps(self, order):
        """True if every given pair stands in the list as demanded."""
        check_list(order)
        check_like_keys(self._all_keys, order)
        return all([order.index(x) < order.index(y) for x, y in self._pairs])

    def order_count(self):
        """The number of lists of all keys that the relation keeps."""
        bits = bits_of(self._all_keys)
        return count_endings(bits, self._followers).get(sum(bits.values()), 0)

    def each_order(self):
        """Yield the lists of all keys that the relation keeps, ascending."""
        # A cyclic relation is left out here, so that no beginning of a list leads nowhere.
        if not self._is_cyclic():
            order = []
            yield from each_order_from(self._followers, order, self._all_keys)

    def least_order(self):
        """The least list that the relation keeps, or None."""
        for order in self.each_order():
            return order
        return None

    def rank(self, order):
        """The index of the list among those that the relation keeps, or None."""
        if not self.keeps(order):
            return None
        bits = bits_of(self._all_keys)
        counts = count_endings(bits, self._followers)
        rest = sum(bits.values())
        lesser = 0
        for key in order:
            lesser += sum([many for other, many in next_keys(bits, counts, rest) if other < key])
            rest = rest ^ bits[key]
        return lesser

    def order_at(self, rank):
        """The list with this index among those that the relation keeps."""
        bits = bits_of(self._all_keys)
        counts = count_endings(bits, self._followers)
        rest = sum(bits.values())
        limit = counts.get(rest, 0)
        if rank < 0 or rank >= limit:
            raise OutOfRange(limit)
        order = []
        left = rank
        while rest:
            key, left = key_at(next_keys(bits, counts, rest), left)
            order.append(key)
            rest = rest ^ bits[key]
        return order

    def span(self, key):
        """The least and the greatest position of the key in the lists kept, or None if there are none."""
        check_known(self._all_keys, key)
        if self._is_cyclic():
            return None
        earlier = [other for other in self._all_keys if key in self._followers[other]]
        return (len(earlier), len(self._all_keys) - 1 - len(self._followers[key]))

    def __add__(self, other):
        check_like_keys(self._all_keys, other._all_keys)
        return Relation(self._all_keys, self._pairs + other._pairs)

    def __neg__(self):
        return Relation(self._all_keys, [(y, x) for x, y in self._pairs])

    def __contains__(self, x):
        return x in self.closed()

    def __len__(self):
        return len(self.closed())

    def __eq__(self, other):
        return (
            isinstance(other, Relation)
            and self._all_keys == other._all_keys
            and self._followers == other._followers
        )

    def _check_keys(self, x, y):
        check_known(self._all_keys, x)
        check_known(self._all_keys, y)

    def _is_cyclic(self):
        return any([key in self._followers[key] for key in self._all_keys])


def reached_from(steps, start):
    """The keys to which one or more steps lead from start, ascending."""
    found = {}
    waiting = list(steps[start])
    while waiting:
        key = waiting.pop()
        if key not in found:
            found[key] = True
            waiting.extend(steps[key])
    return sorted(found)


def shortest_path(steps, start, end):
    """The keys of the shortest, then least, chain of one or more steps from start to end, or None."""
    paths = [[start]]
    met = {}
    # The paths of one length are extended in ascending order, so a key is first met by its least path.
    while paths:
        longer = []
        for path in paths:
            for key in steps[path[-1]]:
                if key == end:
                    return path + [key]
                if key not in met:
                    met[key] = True
                    longer.append(path + [key])
        paths = longer
    return None


def each_order_from(followers, order, rest):
    """Yield the lists that begin with order and go on with the rest, no key behind one of its followers."""
    if not rest:
        yield list(order)
    for key in rest:
        if not any([key in followers[other] for other in rest]):
            longer = order + [key]
            others = [other for other in rest if other != key]
            yield from each_order_from(followers, longer, others)


def bits_of(all_keys):
    """A bit for each key, so that a number can stand for a set of keys."""
    return {key: 1 << place for place, key in enumerate(all_keys)}


def count_endings(bits, followers):
    """For each set of keys that can be the end of a list, the number of orders that it can have there."""
    needed = {key: sum([bits[other] for other in followers[key]]) for key in bits}
    counts = {0: 1}
    sets = [0]
    for _ in bits:
        found = {}
        for ending in sets:
            for key in bits:
                if ending & bits[key] == 0 and ending & needed[key] == needed[key]:
                    longer = ending | bits[key]
                    found[longer] = found.get(longer, 0) + counts[ending]
        counts.update(found)
        sets = list(found)
    return counts


def next_keys(bits, counts, rest):
    """The keys that can stand first in the ending rest, ascending, each with the number of orders behind it."""
    firsts = [key for key in bits if rest & bits[key] and rest ^ bits[key] in counts]
    return [(key, counts[rest ^ bits[key]]) for key in firsts]


def key_at(choices, rank):
    """The key under whose orders the one with this rank is, and its rank among those."""
    place = 0
    left = rank
    while left >= choices[place][1]:
        left -= choices[place][1]
        place += 1
    return (choices[place][0], left)
