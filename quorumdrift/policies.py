"""How the regions of a merge that has cycles are put in order."""

from quorumdrift.basics import check_like_keys
from quorumdrift.lists import check_list
from quorumdrift.readings import pairs_against
from quorumdrift.threeway import check_side


class Policy:
    """Called with a ThreeWay and a region, gives the keys of the region in the order that they shall have."""

    def __call__(self, three, region):
        return sorted(region)

    def label(self):
        """The policy in words."""
        return "ascending"


class PreferSide(Policy):
    """The keys in the order in which one side has them."""

    def __init__(self, side):
        check_side(side)
        self._side = side

    def __call__(self, three, region):
        return as_in_side(three, self._side, region)

    def label(self):
        """The policy in words."""
        return super().label() + " but as in " + self._side


class Backward(Policy):
    """The keys in the opposite order to that of another policy."""

    def __init__(self, inner):
        self._inner = inner

    def __call__(self, three, region):
        return self._inner(three, region)[::-1]

    def label(self):
        """The policy in words."""
        return super().label() + " but backward of " + self._inner.label()


def as_in_side(three, side, region):
    """The keys of the region in the order in which that side of the merge has them."""
    return [key for key in three.side(side) if key in region]


def regions(three):
    """The components of the merge."""
    return three.merged().components()


def resolve(three, *, policy=None):
    """One list of all keys: the regions in their order, each as the policy puts it."""
    chosen = PreferSide("mine") if policy is None else policy
    order = []
    for region in regions(three):
        order.extend(region if len(region) == 1 else chosen(three, region))
    return order


def violations(three, order):
    """The tuples (x, y), ascending, with x before y in the merge but y before x in the list."""
    merged = three.merged()
    check_list(order)
    check_like_keys(order, merged.all_keys())
    return pairs_against(merged, order)
