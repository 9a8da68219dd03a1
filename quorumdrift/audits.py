"""What is known about a run of which only the ends are seen, and which swaps a run has too many or too few."""

from quorumdrift.basics import check_like_keys, pairs_in
from quorumdrift.distances import can_take, check_one_class
from quorumdrift.freedom import Freedom
from quorumdrift.lists import differing_pairs, swap_at
from quorumdrift.runs import Run, each_state, first_fault
from quorumdrift.states import State
from quorumdrift.swaps import is_silent


class Audit:
    """Two states of one class, of which silent swaps led from the first to the second."""

    def __init__(self, start, goal):
        check_one_class(start, goal)
        self._start = start
        self._goal = goal
        self._freedom = Freedom(start)

    def moved(self):
        """The replicas whose lists differ, ascending."""
        return [replica for replica in range(State.REPLICAS) if self.odd_pairs(replica)]

    def odd_pairs(self, replica):
        """The tuples (x, y) that the replica exchanged an odd number of times, x before y at first, ascending."""
        return differing_pairs(self._start.list_of(replica), self._goal.list_of(replica))

    def possibly(self, replica):
        """The tuples (x, y), x < y, ascending, that the replica exchanges in some run from start to goal."""
        never = self.never(replica)
        return [pair for pair in pairs_in(self._start.all_keys()) if pair not in never]

    def never(self, replica):
        """The tuples (x, y), x < y, ascending, that the replica exchanges in no run from start to goal."""
        # A run can take a way round by every state of the class, so only what is fixed in all of them stays.
        fixed = self._freedom.fixed_pairs(replica)
        return sorted([(min(x, y), max(x, y)) for x, y in fixed])

    def shares(self):
        """How many odd pairs each replica has."""
        return tuple([len(self.odd_pairs(replica)) for replica in range(State.REPLICAS)])

    def can_take(self, count):
        """Whether a run from start to goal has exactly this many silent swaps; None if that is not known."""
        return can_take(self._start, self._goal, count)


def extra_swaps(start, goal, run):
    """The steps, ascending, without which the run has no fault and leads from start to goal."""
    check_like_keys(start.all_keys(), goal.all_keys())
    reached = states_along(start, run)
    needed = states_back(goal, run)
    return [step for step in range(len(run)) if reached[step] is not None and reached[step] == needed[step + 1]]


def missing_swaps(start, goal, run):
    """The tuples (step, swap), ascending, so that the run with the swap before that step leads from start to goal."""
    check_like_keys(start.all_keys(), goal.all_keys())
    ends = list(zip(states_along(start, run), states_back(goal, run)))
    return [(step, swap) for step, (first, second) in enumerate(ends) for swap in swaps_between(first, second)]


def states_along(start, run):
    """The state before each step of the run, and at its end; None behind a fault."""
    fault = first_fault(start, run)
    many = len(run) if fault is None else fault[0]
    clean = Run(run.steps()[:many])
    return list(each_state(start, clean)) + [None] * (len(run) - many)


def states_back(goal, run):
    """For each step of the run, and its end, the state from which the rest of the run leads to goal; or None."""
    return states_along(goal, -run)[::-1]


def swaps_between(first, second):
    """The silent swaps, one or none, that lead from the first state to the second; none if one of them is None."""
    if first is None or second is None:
        return []
    moved = [replica for replica in range(State.REPLICAS) if first.list_of(replica) != second.list_of(replica)]
    if len(moved) != 1:
        return []
    order = first.list_of(moved[0])
    turned = second.list_of(moved[0])
    swaps = [(moved[0], index) for index in range(len(order) - 1) if swap_at(order, index) == turned]
    return [swap for swap in swaps if is_silent(first, swap)]
