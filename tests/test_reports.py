"""Point 45: the report of a state."""

import unittest

from quorumdrift.reports import report
from quorumdrift.states import State
from tests.helpers import DriftCase
from tests.oracles import CIRCLE, EMPTY, SINGLE, STATES, dissenters, pinned_pairs, read_pairs
from tests.test_forced import settled_by_swaps

RICH = State([2, 4, 3, 1], [3, 1, 2, 4], [1, 4, 3, 2])


def numbers_of(state, replica):
    """How many dissents the replica has, and how many of them are pinned, forced and voluntary."""
    home = settled_by_swaps(state)
    found = [pair for pair in read_pairs(state) if dissenters(state, *pair) == [replica]]
    pinned = [pair for pair in found if pair in pinned_pairs(state)]
    forced = [pair for pair in found if pair not in pinned and dissenters(home, *pair) == [replica]]
    return [len(found), len(pinned), len(forced), len(found) - len(pinned) - len(forced)]


class ReportTest(DriftCase):
    def test_the_numbers_column_by_column(self):
        seen = [set(), set(), set(), set()]
        for state in STATES[:280] + STATES[-4:]:
            rows = report(state).split("\n")
            self.assertEqual(len(rows), 5)
            found = [numbers_of(state, replica) for replica in range(3)]
            wanted = [[str(replica)] + list(map(str, numbers)) for replica, numbers in enumerate(found)]
            wanted.append(["total"] + [str(sum(column)) for column in zip(*found)])
            self.assertEqual([row.split() for row in rows[1:]], wanted)
            for row in rows:
                self.assertEqual(len(row), 48)
            for column, numbers in zip(seen, zip(*found)):
                column.update(numbers)
        self.assertTrue(all(len(column) > 1 for column in seen))

    def test_all_kinds_of_dissents(self):
        state = RICH + State([6, 5], [5, 6], [5, 6])
        self.assertEqual(report(state), "\n".join([
            "replica   dissents    pinned    forced voluntary",
            "0                4         2         1         1",
            "1                1         1         0         0",
            "2                2         2         0         0",
            "total            7         5         1         1",
        ]))

    def test_no_keys(self):
        rows = [
            "replica   dissents    pinned    forced voluntary",
            "0                0         0         0         0",
            "1                0         0         0         0",
            "2                0         0         0         0",
            "total            0         0         0         0",
        ]
        for state in (EMPTY, SINGLE, State.same([3, 1, 2])):
            self.assertEqual(report(state), "\n".join(rows))

    def test_numbers_of_two_digits(self):
        order = list(range(12))
        rows = report(State(order[::-1], order, order)).split("\n")
        self.assertEqual(rows[1], "0               66         0         0        66")
        self.assertEqual(rows[4], "total           66         0         0        66")

    def test_columns(self):
        for state in (CIRCLE, RICH, STATES[-1]):
            rows = report(state).split("\n")
            self.assertEqual([row[:8] for row in rows], ["replica ", "0       ", "1       ", "2       ", "total   "])
            for row in rows:
                cells = [row[at:at + 10] for at in range(8, 48, 10)]
                self.assertEqual(cells, [cell.strip().rjust(10) for cell in cells])
            self.assertEqual([cell.strip() for cell in (rows[0][8:18], rows[0][18:28], rows[0][28:38], rows[0][38:48])],
                             ["dissents", "pinned", "forced", "voluntary"])


if __name__ == "__main__":
    unittest.main()
