"""A table of the dissents of a state."""

from quorumdrift.dissents import dealing, dissents
from quorumdrift.forced import forced_dissents, voluntary_dissents
from quorumdrift.states import State


def report(state):
    """For each replica, and in all: how many dissents there are, and how many of each kind."""
    shares = [counts(state, replica) for replica in range(State.REPLICAS)]
    sums = [sum([share[column] for share in shares]) for column in range(len(shares[0]))]
    rows = [line("replica", ["dissents", "pinned", "forced", "voluntary"])]
    rows.extend([line(replica, share) for replica, share in enumerate(shares)])
    rows.append(line("total", sums))
    return "\n".join(rows)


def counts(state, replica):
    """How many dissents the replica has, and how many of them are pinned, forced and voluntary."""
    pinned = [entry for entry in dealing(state) if entry[2] == replica]
    forced = forced_dissents(state, replica)
    voluntary = voluntary_dissents(state, replica)
    return [len(dissents(state, replica)), len(pinned), len(forced), len(voluntary)]


def line(first, others):
    """A line of the table: the first column 8 wide, the others 10 wide each."""
    return f"{first:<8}" + "".join([f"{other:>10}" for other in others])
