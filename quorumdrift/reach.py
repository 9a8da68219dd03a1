"""Which state silent swaps lead to, by which run, or for which reason not."""

from quorumdrift.basics import check_like_keys, pairs_in
from quorumdrift.certificates import DealtOtherwise, NotAllowed, ReadOtherwise, dealt_apart
from quorumdrift.errors import NotReachable
from quorumdrift.lists import differing_pairs
from quorumdrift.readings import read
from quorumdrift.runs import first_fault, play
from quorumdrift.settling import settle_run
from quorumdrift.states import State, check_replicas


def reaches(start, goal, *, movers=(0, 1, 2)):
    """True if silent swaps of the movers lead from start to goal."""
    return explain_reach(start, goal, movers=movers) is None


def explain_reach(start, goal, *, movers=(0, 1, 2)):
    """None if silent swaps of the movers lead from start to goal, otherwise the certificate that says why not."""
    check_replicas(movers)
    check_like_keys(start.all_keys(), goal.all_keys())
    certificate = read_apart(start, goal)
    if certificate is None:
        certificate = dealt_in_a_cycle(start, goal)
    if certificate is None:
        certificate = moved_apart(start, goal, movers)
    return certificate


def route(start, goal, *, movers=(0, 1, 2)):
    """A run of silent swaps of the movers from start to goal, by way of their settled lists."""
    check_reachable(start, goal, movers)
    return settle_run(start, replicas=movers) + (-settle_run(goal, replicas=movers))


def check_route(start, goal, run, *, movers=(0, 1, 2)):
    """True if the run leads from start to goal without a fault and names only movers."""
    check_replicas(movers)
    if not all([swap[0] in movers for swap in run.steps()]):
        return False
    # States of unlike keys need no test of their own: no swap brings a key in.
    return first_fault(start, run) is None and play(start, run) == goal


def check_reachable(start, goal, movers):
    """Raise NotReachable with its certificate if silent swaps of the movers do not lead from start to goal."""
    certificate = explain_reach(start, goal, movers=movers)
    if certificate is not None:
        raise NotReachable(certificate)


def read_apart(start, goal):
    """The certificate of the least pair that is read otherwise in goal, or None."""
    here = read(start)
    there = read(goal)
    for pair in pairs_in(start.all_keys()):
        if (pair in here) != (pair in there):
            return ReadOtherwise(pair)
    return None


def dealt_in_a_cycle(start, goal):
    """The certificate of the first cycle, in states that are read alike, that is dealt otherwise in goal; or None."""
    for triple in read(start).cycles():
        if dealt_apart(start, goal, triple):
            return DealtOtherwise(triple)
    return None


def moved_apart(start, goal, movers):
    """The certificate of the least replica, not a mover, whose list is another one in goal; or None."""
    for replica in range(State.REPLICAS):
        turned = differing_pairs(start.list_of(replica), goal.list_of(replica))
        if turned and replica not in movers:
            return NotAllowed(replica, min([(min(x, y), max(x, y)) for x, y in turned]))
    return None
