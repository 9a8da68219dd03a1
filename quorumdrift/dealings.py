"""The classes that share a reading, and the state that has a given dealing."""

from quorumdrift.basics import pairs_in
from quorumdrift.errors import InvalidDealing, NoDealing, OutOfRange, TooMany
from quorumdrift.forced import list_by
from quorumdrift.readings import Reading, leading_keys, pairs_against, read
from quorumdrift.relations import Relation
from quorumdrift.settling import settle
from quorumdrift.states import State

MOST_COUNTED = 4


def each_home(reading):
    """Yield the settled states that are read so, ascending by their lists."""
    closing = closing_keys(reading)
    keys = reading.all_keys()
    order = []
    nothing = {}
    for first in each_list_from(closing, nothing, order, keys):
        by_first = {pair: True for pair in pairs_against(reading, first)}
        for second in each_list_from(closing, by_first, order, keys):
            by_both = {pair: True for pair in list(by_first) + pairs_against(reading, second)}
            for third in each_list_from(closing, by_both, order, keys):
                yield State(first, second, third)


def class_count(reading):
    """The number of classes that share the reading."""
    return sum([1 for _ in each_home(reading)])


def class_rank(state):
    """The index of the settled state of this one among those that are read like it."""
    home = settle(state)
    reading = read(state)
    rank = 0
    for other in each_home(reading):
        if other == home:
            break
        rank += 1
    return rank


def class_at(reading, rank):
    """The settled state with this index among those that are read so."""
    limit = 0
    for home in each_home(reading):
        if limit == rank:
            return home
        limit += 1
    raise OutOfRange(limit)


def census(size):
    """How many readings of this many keys are those of some state, and how many classes there are."""
    if size > MOST_COUNTED:
        raise TooMany(MOST_COUNTED)
    counts = [class_count(reading) for reading in readings_of(list(range(size)))]
    return (len([many for many in counts if many > 0]), sum(counts))


def build(reading, shares):
    """The settled state that has this reading and this dealing."""
    check_shares(reading, shares)
    relations = [share_relation(reading, shares, replica) for replica in range(State.REPLICAS)]
    reason = circle_among(relations)
    if reason is None:
        reason = clash_among(reading, relations)
    if reason is not None:
        raise NoDealing(reason)
    orders = [list_by(relation, reading) for relation in relations]
    return State(*orders)


def closing_keys(reading):
    """For each pair, as it is read, the keys that make a cycle with it."""
    keys = reading.all_keys()
    pairs = reading.pairs()
    return {(x, y): [z for z in keys if (y, z) in reading and (z, x) in reading] for x, y in pairs}


def each_list_from(closing, taken, order, rest):
    """Yield the settled lists that begin with order, go on with the rest, and dissent at no taken pair."""
    if not rest:
        yield list(order)
    for key in leading_keys(closing, rest):
        others = [other for other in rest if other != key]
        if can_follow(closing, taken, order, key, others):
            longer = order + [key]
            yield from each_list_from(closing, taken, longer, others)


def can_follow(closing, taken, order, key, others):
    """True if a settled list may begin with order, then the key, then the others in some order."""
    if order and (order[-1], key) not in closing:
        return False
    # A replica dissents once in a cycle, so the key that closes it stands between the two keys that are turned.
    for later in others:
        if (later, key) in taken or any([between in order for between in closing.get((later, key), [])]):
            return False
    return True


def readings_of(all_keys):
    """All readings of the keys."""
    pairs = pairs_in(all_keys)
    return [
        Reading(all_keys, [(y, x) if code >> place & 1 else (x, y) for place, (x, y) in enumerate(pairs)])
        for code in range(1 << len(pairs))
    ]


def check_shares(reading, shares):
    """Raise InvalidDealing unless the entries give one replica to each pinned pair."""
    pinned = reading.pinned()
    met = {}
    for place, (x, y, replica) in enumerate(shares):
        if (x, y) not in pinned or (x, y) in met or replica not in range(State.REPLICAS):
            raise InvalidDealing(place)
        met[(x, y)] = True
    if len(shares) < len(pinned):
        raise InvalidDealing(len(shares))


def share_relation(reading, shares, replica):
    """The Relation of what the replica says at the pinned pairs, if these are dealt so."""
    words = [(y, x) if dealt == replica else (x, y) for x, y, dealt in shares]
    return Relation(reading.all_keys(), words)


def circle_among(relations):
    """The reason that names the first cyclic relation, or None."""
    for replica, relation in enumerate(relations):
        keys = relation.cycle()
        if keys is not None:
            return ("cycle", replica, tuple(keys))
    return None


def clash_among(reading, relations):
    """The reason that names the first free pair at which two replicas would dissent, or None."""
    for x, y in reading.free():
        against = [replica for replica, relation in enumerate(relations) if relation.implies(y, x)]
        if len(against) >= 2:
            return ("clash", x, y, against[0], against[1])
    return None
