"""Paths: basic changes of a Trio made one after the other, as a list of tuples (replica, contents)."""

from quorumdrift.errors import AudibleChange, InvalidChange, NotReachable
from quorumdrift.settling import picked
from quorumdrift.states import State, check_replicas
from quorumdrift.trios import apart, check_fit


def settle_path(trio, *, replicas=(0, 1, 2), picks=()):
    """The path of homeward changes of these replicas, at each step the picked one, until they have none."""
    check_replicas(replicas)
    now = trio
    path = []
    choices = homeward_changes(now, replicas)
    while choices:
        replica, contents = picked(choices, picks, len(path))
        path.append((replica, contents))
        now = now.with_contents(replica, contents)
        choices = homeward_changes(now, replicas)
    return path


def play_path(trio, path):
    """The Trio after all changes of the path."""
    now = trio
    for step, (replica, contents) in enumerate(path):
        if replica < 0 or replica >= State.REPLICAS:
            raise InvalidChange(step)
        if contents not in now.contents_of(replica).changes():
            raise InvalidChange(step)
        if not now.is_silent(replica, contents):
            raise AudibleChange(step)
        now = now.with_contents(replica, contents)
    return now


def trio_reaches(start, goal, *, movers=(0, 1, 2)):
    """True if silent basic changes of the movers lead from start to goal."""
    return trio_explain(start, goal, movers=movers) is None


def trio_explain(start, goal, *, movers=(0, 1, 2)):
    """None if silent basic changes of the movers lead from start to goal, otherwise a tuple that says why not."""
    check_replicas(movers)
    check_fit(start.contents_of(0), goal.contents_of(0))
    reason = read_otherwise(start, goal)
    if reason is None:
        reason = dealt_otherwise(start, goal)
    if reason is None:
        reason = moved_otherwise(start, goal, movers)
    return reason


def trio_path(start, goal, *, movers=(0, 1, 2)):
    """A path of silent basic changes of the movers from start to goal, by way of the settled contents."""
    reason = trio_explain(start, goal, movers=movers)
    if reason is not None:
        raise NotReachable(reason)
    return settle_path(start, replicas=movers) + taken_back(goal, settle_path(goal, replicas=movers))


def expand_change(trio, replica, contents):
    """A path of silent basic changes of this replica alone to the given contents."""
    return trio_path(trio, trio.with_contents(replica, contents), movers=(replica,))


def homeward_changes(trio, replicas):
    """The homeward changes of these replicas, ascending."""
    return [change for change in trio.homeward() if change[0] in replicas]


def read_otherwise(start, goal):
    """The reason for the least place that is read otherwise in goal, or None."""
    places = apart(start.reading(), goal.reading())
    return ("read", places[0]) if places else None


def dealt_otherwise(start, goal):
    """The reason for the first conflict, in Trios that are read alike, that is dealt otherwise in goal; or None."""
    for conflict in start.conflicts():
        if any([start.dissenter(place) != goal.dissenter(place) for place in conflict]):
            return ("dealt", conflict)
    return None


def moved_otherwise(start, goal, movers):
    """The reason for the least replica, not a mover, whose contents are others in goal; or None."""
    for replica in range(State.REPLICAS):
        places = apart(start.contents_of(replica).words(), goal.contents_of(replica).words())
        if places and replica not in movers:
            return ("mover", replica, places[0])
    return None


def taken_back(trio, path):
    """The path from the end of a path back to the Trio at which it begins."""
    now = trio
    steps = []
    for replica, contents in path:
        steps.append((replica, now.contents_of(replica)))
        now = now.with_contents(replica, contents)
    return steps[::-1]
