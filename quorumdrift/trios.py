"""Three contents of one kind, read place by place by the majority."""

from quorumdrift.cachesets import CacheSet
from quorumdrift.contents import check_places
from quorumdrift.dependencysets import DependencySet
from quorumdrift.errors import AudibleChange, UnlikeContents
from quorumdrift.orderlists import OrderList
from quorumdrift.shardmaps import ShardMap
from quorumdrift.states import check_replica
from quorumdrift.tierlists import TierList


class Trio:
    """The contents of three replicas."""

    def __init__(self, first, second, third):
        check_fit(first, second)
        check_fit(first, third)
        self._contents = [first, second, third]
        self._reading = majority([contents.words() for contents in self._contents])

    def contents_of(self, replica):
        """The contents of the replica."""
        check_replica(replica)
        return self._contents[replica]

    def label(self):
        """The label of the contents."""
        return self._contents[0].label()

    def reading(self):
        """The places that are read as on, ascending."""
        return list(self._reading)

    def conflicts(self):
        """The conflicts of the reading, ascending."""
        return self._contents[0].conflicts(self._reading)

    def pinned(self):
        """The places that lie in a conflict, ascending."""
        return sorted({place for conflict in self.conflicts() for place in conflict})

    def dissenter(self, place):
        """The replica that differs from the reading at the place, or None."""
        check_places(self._contents[0].places(), [place])
        for replica, contents in enumerate(self._contents):
            if (place in contents) != (place in self._reading):
                return replica
        return None

    def dealing(self):
        """The tuples (place, replica), one for each pinned place, with the replica that dissents, ascending."""
        return [(place, self.dissenter(place)) for place in self.pinned()]

    def is_silent(self, replica, contents):
        """True if the reading stays the same with these contents for the replica."""
        return self._with(replica, contents).reading() == self._reading

    def with_contents(self, replica, contents):
        """The Trio with these contents for the replica; the reading stays the same."""
        trio = self._with(replica, contents)
        if trio.reading() != self._reading:
            raise AudibleChange(0)
        return trio

    def silent_changes(self):
        """The silent basic changes, as tuples (replica, contents), ascending."""
        found = []
        for replica, contents in enumerate(self._contents):
            first, second = [other.words() for place, other in enumerate(self._contents) if place != replica]
            # Where the two others differ, the replica decides.
            decided = apart(first, second)
            changes = [(change, apart(contents.words(), change.words())) for change in contents.changes()]
            found.extend([(replica, change) for change, turned in changes if not has_any(turned, decided)])
        return found

    def homeward(self):
        """The homeward basic changes, as tuples (replica, contents), ascending."""
        found = []
        for replica, contents in enumerate(self._contents):
            words = contents.words()
            dissents = apart(words, self._reading)
            changes = [(change, apart(words, change.words())) for change in contents.changes()]
            found.extend([(replica, change) for change, turned in changes if has_all(dissents, turned)])
        return found

    def closed_home(self):
        """The settled Trio, found without changes."""
        pinned = self.pinned()
        settled = [contents.like(settled_words(contents, pinned, self._reading)) for contents in self._contents]
        return Trio(*settled)

    def __eq__(self, other):
        return isinstance(other, Trio) and self._contents == other._contents

    def _with(self, replica, contents):
        check_replica(replica)
        three = list(self._contents)
        three[replica] = contents
        return Trio(*three)


def check_fit(first, second):
    """Raise UnlikeContents unless both are of the same one of the five kinds and have the same keys and book."""
    for contents in (first, second):
        if not isinstance(contents, (OrderList, ShardMap, DependencySet, CacheSet, TierList)):
            raise UnlikeContents()
    if first.KIND != second.KIND or first.all_keys() != second.all_keys() or book_of(first) != book_of(second):
        raise UnlikeContents()


def book_of(contents):
    """The book of the contents; an empty one for a kind that has none."""
    return contents.book() if isinstance(contents, CacheSet) else []


def majority(lists):
    """The places that stand in two or more of the lists, ascending."""
    every = [place for words in lists for place in words]
    return sorted({place for place in every if every.count(place) > 1})


def apart(first, second):
    """The places that only one of two lists of words has, ascending."""
    return sorted(set(first) ^ set(second))


def has_any(places, wanted):
    """True if one of the places is wanted."""
    return any([place in wanted for place in places])


def has_all(places, wanted):
    """True if all that is wanted is among the places."""
    return all([place in places for place in wanted])


def settled_words(contents, pinned, reading):
    """The places at which the settled contents are on: as the pinned words force it, otherwise as it is read."""
    forced = [(place, contents.forced(place, pinned)) for place in contents.places()]
    return [place for place, word in forced if word or (word is None and place in reading)]
