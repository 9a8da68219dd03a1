"""Three-way merges: an old list and two lists made of it, read as three replicas."""

from quorumdrift.errors import InvalidSide
from quorumdrift.reach import reaches, route
from quorumdrift.readings import read
from quorumdrift.settling import settle
from quorumdrift.states import State
from quorumdrift.swaps import apply_swap, silent_swaps

SIDES = ("old", "mine", "yours")
OLD = 0
MINE = 1
YOURS = 2


class ThreeWay:
    """An old list and two lists made of it, each by one party."""

    def __init__(self, old, mine, yours):
        self._sides = State(old, mine, yours)

    def side(self, name):
        """The list of that side."""
        return self._sides.list_of(side_number(name))

    def state(self):
        """The state whose reading is the merge: old reversed, mine and yours."""
        return self._sides.with_list(OLD, self._sides.list_of(OLD)[::-1])

    def merged(self):
        """The reading that has a pair as in old if both parties kept it, otherwise the other way about."""
        return read(self.state())

    def order(self):
        """The merged list, or None if the merge has a cycle."""
        return self.merged().order()

    def changed_by(self, x, y):
        """Who has turned the pair against old."""
        before = self._sides.says(OLD, x, y)
        mine = self._sides.says(MINE, x, y) != before
        yours = self._sides.says(YOURS, x, y) != before
        if mine and yours:
            return "both"
        if mine:
            return "mine"
        if yours:
            return "yours"
        return "nobody"

    def conflicts(self):
        """The tuples (cycle, owners) of the merge: who has turned each of the three pairs."""
        return [
            ((x, y, z), (self.changed_by(x, y), self.changed_by(y, z), self.changed_by(z, x)))
            for x, y, z in self.merged().cycles()
        ]

    def silent_edits(self):
        """All edits that leave the merge as it is, those of old first, then mine, then yours."""
        numbers = sorted([turned_about(swap, len(self._sides)) for swap in silent_swaps(self.state())])
        return [(SIDES[number], index) for number, index in numbers]

    def edit(self, side, index):
        """The ThreeWay after a silent edit."""
        swap = turned_about((side_number(side), index), len(self._sides))
        return three_of(apply_swap(self.state(), swap))

    def settled(self):
        """The ThreeWay whose state is the settled one."""
        return three_of(settle(self.state()))

    def same_merge(self, other):
        """True if silent edits lead from this one to the other one."""
        return reaches(self.state(), other.state())

    def edits_to(self, other):
        """Silent edits that lead from this one to the other one."""
        run = route(self.state(), other.state())
        numbers = [turned_about(swap, len(self._sides)) for swap in run.steps()]
        return [(SIDES[number], index) for number, index in numbers]

    def flipped(self):
        """The ThreeWay with mine and yours exchanged."""
        old, mine, yours = self._sides.lists()
        return ThreeWay(old, yours, mine)

    def __eq__(self, other):
        return isinstance(other, ThreeWay) and self._sides == other._sides


def check_side(name):
    """Raise InvalidSide unless this is the name of a side."""
    if name not in SIDES:
        raise InvalidSide(name)


def side_number(name):
    """The number of the replica that the side is in the state."""
    check_side(name)
    return SIDES.index(name)


def turned_about(swap, size):
    """The tuple (number of the side, index) of a swap of the state, and the swap of such a tuple."""
    number, index = swap
    # Old stands in the state from its other end.
    if number == OLD:
        return (number, size - 2 - index)
    return (number, index)


def three_of(state):
    """The ThreeWay that has this state."""
    old, mine, yours = state.lists()
    return ThreeWay(old[::-1], mine, yours)
