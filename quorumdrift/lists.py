"""Functions on single replica lists."""

from quorumdrift.basics import check_like_keys, first_wrong_place, pairs_in
from quorumdrift.errors import InvalidList, InvalidSwap


def check_list(order):
    """Raise InvalidList with the least wrong index, if there is one."""
    place = first_wrong_place(order)
    if place is not None:
        raise InvalidList(place)


def swap_at(order, index):
    """The list with the keys at index and index + 1 exchanged."""
    check_list(order)
    if index < 0 or index > len(order) - 2:
        raise InvalidSwap(0)
    return order[:index] + [order[index + 1], order[index]] + order[index + 2:]


def differing_pairs(first, second):
    """The tuples (x, y), ascending, with x before y in first and y before x in second."""
    check_two_lists(first, second)
    return sorted([(x, y) for x, y in pairs_in(first) if second.index(y) < second.index(x)])


def straight_swaps(first, second):
    """The indexes to be exchanged, one after the other, to turn first into second."""
    check_two_lists(first, second)
    order = list(first)
    indexes = []
    index = first_turned(order, second)
    while index is not None:
        indexes.append(index)
        order = swap_at(order, index)
        index = first_turned(order, second)
    return indexes


def check_two_lists(first, second):
    """Raise the error of the first list, then of the second one, then UnlikeKeys."""
    check_list(first)
    check_list(second)
    check_like_keys(first, second)


def first_turned(order, goal):
    """The least index whose two keys stand in the opposite order in goal, or None."""
    for index in range(len(order) - 1):
        if goal.index(order[index + 1]) < goal.index(order[index]):
            return index
    return None
