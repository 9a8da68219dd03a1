"""How many silent swaps lie between two states of one class, and what they cost."""

from quorumdrift.dissents import dissenter
from quorumdrift.lists import differing_pairs
from quorumdrift.reach import check_reachable, check_route, route
from quorumdrift.readings import read
from quorumdrift.runs import Run, play
from quorumdrift.swaps import apply_swap, is_silent, silent_swaps


def word_distance(start, goal):
    """The number of (replica, pair) at which the two states say different things."""
    check_one_class(start, goal)
    return sum(words_apart(start, goal))


def passing(start, goal):
    """The tuples (x, y, g, h), ascending: g dissents at the pair in start, and another replica h in goal."""
    check_one_class(start, goal)
    found = [(x, y, dissenter(start, x, y), dissenter(goal, x, y)) for x, y in read(start).pairs()]
    return [(x, y, g, h) for x, y, g, h in found if g is not None and h is not None and g != h]


def useful_swaps(start, goal):
    """The silent swaps at start that make the word distance less by one, ascending."""
    check_one_class(start, goal)
    return swaps_towards(start, goal)


def straight_run(start, goal):
    """The run of the first useful swap, again and again, until there is none."""
    check_one_class(start, goal)
    now = start
    swaps = []
    choices = swaps_towards(now, goal)
    while choices:
        swaps.append(choices[0])
        now = apply_swap(now, choices[0])
        choices = swaps_towards(now, goal)
    return Run(swaps)


def best_run(start, goal):
    """The straight run and, if it ends elsewhere, the route from there to goal."""
    run = straight_run(start, goal)
    end = play(start, run)
    if end == goal:
        return run
    return run + route(end, goal)


def bounds(start, goal):
    """The tuple (low, high) of two numbers between which the least number of silent swaps lies."""
    check_one_class(start, goal)
    return (least_steps(start, goal), len(best_run(start, goal)))


def is_shortest(start, goal, run):
    """True if the run leads from start to goal with as few swaps as the lower bound."""
    check_one_class(start, goal)
    return check_route(start, goal, run) and len(run) == least_steps(start, goal)


def can_take(start, goal, count):
    """Whether a run from start to goal has exactly this many silent swaps; None if that is not known."""
    low, high = bounds(start, goal)
    # Every swap turns one word, so the lengths of all runs are even or odd alike.
    if count < low or (count - high) % 2 != 0:
        return False
    if count < high:
        return None
    # A silent swap can be made to and fro, which makes a run longer by two.
    return count == high or silent_swaps(start) != []


def least_cost(start, goal, *, prices=(1, 1, 1)):
    """The tuple (low, high) of two costs between which the least cost lies, a swap of replica h at prices[h]."""
    check_one_class(start, goal)
    return (cost_of(words_apart(start, goal), prices), cost_of(best_run(start, goal).shares(), prices))


def check_one_class(start, goal):
    """Raise UnlikeKeys, then NotReachable, unless the two states are in one class."""
    check_reachable(start, goal, (0, 1, 2))


def words_apart(start, goal):
    """For each replica, the number of pairs at which it says different things in the two states."""
    return [len(differing_pairs(mine, theirs)) for mine, theirs in zip(start.lists(), goal.lists())]


def swaps_towards(start, goal):
    """The useful swaps, ascending, without a check of the two states."""
    return [
        (replica, index)
        for replica, order in enumerate(start.lists())
        for index, (x, y) in enumerate(zip(order, order[1:]))
        if goal.says(replica, y, x) and is_silent(start, (replica, index))
    ]


def least_steps(start, goal):
    """The lower bound of the number of swaps, without a check of the two states."""
    if start == goal:
        return 0
    distance = sum(words_apart(start, goal))
    if swaps_towards(start, goal) and swaps_towards(goal, start):
        return distance
    return distance + 2


def cost_of(numbers, prices):
    """The cost of this many swaps of each replica."""
    return sum([many * price for many, price in zip(numbers, prices)])
