"""Moves of whole blocks and rewrites of whole lists, made of single swaps."""

from quorumdrift.errors import InvalidMove
from quorumdrift.lists import straight_swaps
from quorumdrift.runs import Run, first_fault, play
from quorumdrift.states import State


def expand_move(state, move):
    """The run of single swaps that makes the move."""
    return checked(state, move_run(state, move))


def apply_move(state, move):
    """The state after the move."""
    return play(state, move_run(state, move))


def can_move(state, move):
    """True if no swap of the move is audible."""
    return first_fault(state, move_run(state, move)) is None


def expand_rewrite(state, replica, order):
    """The run of the replica's swaps that turns its list into this one."""
    return checked(state, rewrite_run(state, replica, order))


def rewrite(state, replica, order):
    """The state in which the replica has this list, reached by silent swaps of that replica."""
    return play(state, rewrite_run(state, replica, order))


def can_rewrite(state, replica, order):
    """True if no swap of the rewrite is audible."""
    return first_fault(state, rewrite_run(state, replica, order)) is None


def checked(state, run):
    """The run itself, if it has no fault at the state."""
    # Playing raises the error of the first audible swap; the state that it gives is not needed.
    play(state, run)
    return run


def move_run(state, move):
    """The swaps of the move, silent or not."""
    check_move(state, move)
    replica, start, middle, end = move
    return Run([
        (replica, index)
        for passed in range(end - middle)
        for index in range(middle + passed - 1, start + passed - 1, -1)
    ])


def check_move(state, move):
    """Raise InvalidMove if the state has no such replica or no such two blocks."""
    replica, start, middle, end = move
    if replica < 0 or replica >= State.REPLICAS:
        raise InvalidMove()
    if not 0 <= start < middle < end <= len(state):
        raise InvalidMove()


def rewrite_run(state, replica, order):
    """The swaps of the rewrite, silent or not."""
    return Run([(replica, index) for index in straight_swaps(state.list_of(replica), order)])
