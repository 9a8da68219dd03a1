"""Clusters: states that deeds change, with a history that can be undone, and saved states."""

from quorumdrift.audits import Audit
from quorumdrift.deeds import deed_line, parse_deeds
from quorumdrift.errors import DriftError, FailedLine, Full, InvalidOption, NotAMover, NothingToRedo, NothingToUndo
from quorumdrift.errors import UnknownName
from quorumdrift.lists import straight_swaps
from quorumdrift.moves import check_move, expand_move, expand_rewrite
from quorumdrift.reach import route
from quorumdrift.resizing import insert_key
from quorumdrift.runs import Run, play
from quorumdrift.settling import settle_run
from quorumdrift.states import State, check_replicas
from quorumdrift.swaps import check_swap


class Cluster:
    """A state that deeds change."""

    def __init__(self, state, *, movers=(0, 1, 2), capacity=100):
        check_replicas(movers)
        check_capacity(capacity, 0)
        self._state = state
        self._movers = tuple(sorted(set(movers)))
        self._capacity = capacity
        # The deeds done, and those undone, the last undone one last: tuples (deed, swaps, state before, state after).
        self._done = []
        self._undone = []
        self._saved = {}

    @classmethod
    def replay(cls, state, text, *, movers=(0, 1, 2), capacity=100):
        """A new cluster on which the deeds of the text were done."""
        cluster = cls(state, movers=movers, capacity=capacity)
        cluster.play_lines(text)
        return cluster

    def state(self):
        """The present state."""
        return self._state

    def history(self):
        """The deeds done and not undone."""
        return [entry[0] for entry in self._done]

    def journal(self):
        """The lines of the history, as one text."""
        return "\n".join([deed_line(deed) for deed in self.history()])

    def movers(self):
        """The replicas that may move, ascending."""
        return self._movers

    @property
    def drift(self):
        """The number of silent swaps of all deeds of the history."""
        return sum([entry[1] for entry in self._done])

    @property
    def capacity(self):
        """How many deeds the history may have."""
        return self._capacity

    @capacity.setter
    def capacity(self, value):
        check_capacity(value, len(self._done))
        self._capacity = value

    def change(self, option, value):
        """Give the option, capacity or movers, this value from now on."""
        if option == "capacity":
            self.capacity = value
        elif option == "movers":
            check_replicas(value)
            self._movers = tuple(sorted(set(value)))
        else:
            raise InvalidOption(option)

    def do_swap(self, replica, index):
        """Make one silent swap; the number of swaps."""
        self._check_room()
        check_swap(self._state, (replica, index), 0)
        self._check_mover(replica)
        return self._make(("swap", replica, index), Run.of((replica, index)))

    def do_move(self, replica, start, middle, end):
        """Exchange two neighbouring blocks of a replica; the number of swaps."""
        self._check_room()
        move = (replica, start, middle, end)
        check_move(self._state, move)
        self._check_mover(replica)
        return self._make(("move", replica, start, middle, end), expand_move(self._state, move))

    def do_rewrite(self, replica, order):
        """Replace the whole list of a replica; the number of swaps."""
        self._check_room()
        # Checks the replica and the list, ahead of whether it may move.
        straight_swaps(self._state.list_of(replica), order)
        self._check_mover(replica)
        return self._make(("rewrite", replica, tuple(order)), expand_rewrite(self._state, replica, order))

    def do_settle(self):
        """Make homeward swaps of the movers until there are none; the number of swaps."""
        self._check_room()
        return self._make(("settle",), settle_run(self._state, replicas=self._movers))

    def do_become(self, state):
        """Go to this state by silent swaps of the movers; the number of swaps."""
        self._check_room()
        return self._make(("become", str(state)), route(self._state, state, movers=self._movers))

    def add_key(self, key, positions):
        """Put in a new key at this index of each replica; 0, as it takes no swap."""
        self._check_room()
        first, second, third = positions
        return self._enter(("add", key, first, second, third), 0, insert_key(self._state, key, positions))

    def drop_key(self, key):
        """Take out a key; 0, as it takes no swap."""
        self._check_room()
        return self._enter(("drop", key), 0, self._state - key)

    def undo(self):
        """Take the last deed of the history back."""
        if not self._done:
            raise NothingToUndo()
        entry = self._done.pop()
        self._undone.append(entry)
        self._state = entry[2]

    def redo(self):
        """Do the last undone deed again."""
        if not self._undone:
            raise NothingToRedo()
        entry = self._undone.pop()
        self._done.append(entry)
        self._state = entry[3]

    def save(self, name):
        """Keep the present state under the name."""
        self._saved[name] = self._state

    def saved(self, name):
        """The state that was saved under the name."""
        if name not in self._saved:
            raise UnknownName(name)
        return self._saved[name]

    def restore(self, name):
        """Go to the saved state by silent swaps of the movers; the number of swaps."""
        return self.do_become(self.saved(name))

    def audit(self, name):
        """The Audit from the saved state to the present one."""
        return Audit(self.saved(name), self._state)

    def play_lines(self, text):
        """Do the deeds of the text, all of them or none; the sum of their swaps."""
        deeds = parse_deeds(text)
        state = self._state
        done = list(self._done)
        undone = list(self._undone)
        swaps = 0
        for place, deed in enumerate(deeds):
            try:
                swaps += self._do(deed)
            except DriftError as error:
                self._go_back(state, done, undone)
                raise FailedLine(place + 1) from error
        return swaps

    def trial(self, text):
        """The state to which the deeds of the text would lead; nothing is changed."""
        state = self._state
        done = list(self._done)
        undone = list(self._undone)
        self.play_lines(text)
        reached = self._state
        self._go_back(state, done, undone)
        return reached

    def _do(self, deed):
        word = deed[0]
        told = deed[1:]
        if word == "swap":
            return self.do_swap(*told)
        if word == "move":
            return self.do_move(*told)
        if word == "rewrite":
            return self.do_rewrite(told[0], list(told[1]))
        if word == "settle":
            return self.do_settle()
        if word == "become":
            return self.do_become(State.read(told[0]))
        if word == "add":
            return self.add_key(told[0], told[1:])
        return self.drop_key(told[0])

    def _make(self, deed, run):
        return self._enter(deed, len(run), play(self._state, run))

    def _enter(self, deed, swaps, state):
        self._done.append((deed, swaps, self._state, state))
        self._undone = []
        self._state = state
        return swaps

    def _go_back(self, state, done, undone):
        self._state = state
        self._done = done
        self._undone = undone

    def _check_room(self):
        if len(self._done) >= self._capacity:
            raise Full(self._capacity)

    def _check_mover(self, replica):
        if replica not in self._movers:
            raise NotAMover(replica)


def check_capacity(capacity, least):
    """Raise InvalidOption if the capacity is below the least that it may be."""
    if capacity < least:
        raise InvalidOption("capacity")
