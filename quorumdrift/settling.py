"""Homeward swaps, and the settled state to which they lead."""

from quorumdrift.readings import read
from quorumdrift.runs import Run, play
from quorumdrift.states import check_replicas
from quorumdrift.swaps import apply_swap


def homeward(state):
    """The homeward swaps, ascending."""
    return homeward_by(state, read(state))


def is_settled(state):
    """True if the state has no homeward swap."""
    return not homeward(state)


def settle_run(state, *, replicas=(0, 1, 2), picks=()):
    """The run that makes homeward swaps of these replicas, at each step the picked one, until they have none."""
    check_replicas(replicas)
    # Homeward swaps are silent, so the reading stays as it is.
    reading = read(state)
    now = state
    swaps = []
    choices = homeward_of(now, reading, replicas)
    while choices:
        swap = picked(choices, picks, len(swaps))
        swaps.append(swap)
        now = apply_swap(now, swap)
        choices = homeward_of(now, reading, replicas)
    return Run(swaps)


def settle(state, *, replicas=(0, 1, 2)):
    """The state after the homeward swaps of these replicas."""
    return play(state, settle_run(state, replicas=replicas))


def settle_length(state, *, replicas=(0, 1, 2)):
    """The number of homeward swaps that these replicas make."""
    return len(settle_run(state, replicas=replicas))


def homeward_by(state, reading):
    """The homeward swaps of a state that has this reading, ascending."""
    return [
        (replica, index)
        for replica, order in enumerate(state.lists())
        for index, (x, y) in enumerate(zip(order, order[1:])) if reading.before(y, x)
    ]


def homeward_of(state, reading, replicas):
    """Those of homeward_by that name one of these replicas."""
    return [swap for swap in homeward_by(state, reading) if swap[0] in replicas]


def picked(choices, picks, step):
    """The choice that the picks name for this step, the first one where they name none."""
    if step >= len(picks):
        return choices[0]
    return choices[picks[step] % len(choices)]
