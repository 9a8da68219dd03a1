"""The document's examples that use the modules written so far, and the examples of README.md."""

import doctest
import pathlib
import unittest

from quorumdrift.readings import Reading, read
from quorumdrift.relations import Relation
from quorumdrift.states import State

README = pathlib.Path(__file__).resolve().parent.parent / "README.md"


class DocumentTest(unittest.TestCase):
    def test_relation(self):
        relation = Relation([1, 2, 3, 4], [(1, 2), (2, 3), (1, 3), (3, 4)])
        self.assertEqual([relation.path(1, 4), relation.span(2), relation.order_count()], [[1, 3, 4], (1, 1), 1])

    def test_cycles_of_the_state_under_dissents(self):
        state = State([2, 4, 3, 1], [3, 1, 2, 4], [1, 4, 3, 2])
        self.assertEqual(read(state).cycles(), [(1, 4, 3), (2, 4, 3)])
        self.assertEqual(read(state).pinned(), [(1, 4), (2, 4), (3, 1), (3, 2), (4, 3)])

    def test_reading_under_rebuilding(self):
        reading = Reading([1, 2, 3], [(1, 2), (2, 3), (3, 1)])
        self.assertEqual(reading, read(State([1, 2, 3], [2, 3, 1], [3, 1, 2])))


class ReadmeTest(unittest.TestCase):
    def test_examples(self):
        failed, tried = doctest.testfile(str(README), module_relative=False)
        self.assertEqual(failed, 0)
        self.assertGreater(tried, 0)


if __name__ == "__main__":
    unittest.main()
