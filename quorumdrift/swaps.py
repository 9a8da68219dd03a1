"""Single swaps: a tuple (replica, index) exchanges the keys at index and index + 1 of that replica."""

from quorumdrift.dissents import dissenter
from quorumdrift.errors import AudibleSwap, InvalidSwap
from quorumdrift.lists import swap_at
from quorumdrift.states import State


def swap_pair(state, swap):
    """The tuple of the two keys that the swap exchanges, the one that stands first now first."""
    check_swap(state, swap, 0)
    replica, index = swap
    order = state.list_of(replica)
    return (order[index], order[index + 1])


def is_silent(state, swap):
    """True if the two other replicas agree about the two keys."""
    return barred_by(state, swap) is None


def barred_by(state, swap):
    """None if the swap is silent, otherwise the other replica that dissents at the two keys."""
    x, y = swap_pair(state, swap)
    against = dissenter(state, x, y)
    # A replica that dissents itself bars nothing: the two others agree then.
    if against == swap[0]:
        return None
    return against


def apply_swap(state, swap):
    """The state after the swap, which must be silent."""
    return apply_step(state, swap, 0)


def silent_swaps(state):
    """All silent swaps, ascending."""
    swaps = [(replica, index) for replica in range(State.REPLICAS) for index in range(len(state) - 1)]
    return [swap for swap in swaps if is_silent(state, swap)]


def apply_step(state, swap, step):
    """The state after the swap, which is made at this step of a run: the step that an error names."""
    check_swap(state, swap, step)
    if not is_silent(state, swap):
        raise AudibleSwap(step)
    replica, index = swap
    return state.with_list(replica, swap_at(state.list_of(replica), index))


def check_swap(state, swap, step):
    """Raise InvalidSwap with the step if the state has no such swap."""
    replica, index = swap
    if replica < 0 or replica >= State.REPLICAS or index < 0 or index > len(state) - 2:
        raise InvalidSwap(step)
