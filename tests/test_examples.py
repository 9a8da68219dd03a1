"""The document's examples that use the modules written so far, and the examples of README.md."""

import doctest
import pathlib
import unittest

from quorumdrift.cachesets import CacheSet
from quorumdrift.clusters import Cluster
from quorumdrift.dealings import build, census
from quorumdrift.deeds import parse_deeds
from quorumdrift.dissents import dealing
from quorumdrift.distances import bounds, is_shortest, useful_swaps, word_distance
from quorumdrift.errors import AudibleSwap, InvalidLine, NoDealing
from quorumdrift.forced import forced_dissents
from quorumdrift.freedom import Freedom
from quorumdrift.paths import trio_explain, trio_reaches
from quorumdrift.policies import resolve, violations
from quorumdrift.reach import explain_reach
from quorumdrift.readings import Reading, read
from quorumdrift.rebuilding import LostReplica
from quorumdrift.relations import Relation
from quorumdrift.resizing import project_run
from quorumdrift.runs import Run, first_fault, play
from quorumdrift.settling import settle_run
from quorumdrift.states import State
from quorumdrift.swaps import apply_swap, barred_by, silent_swaps
from quorumdrift.threeway import ThreeWay
from quorumdrift.tierlists import TierList
from quorumdrift.trios import Trio
from quorumdrift.views import loosen
from tests.helpers import DriftCase

README = pathlib.Path(__file__).resolve().parent.parent / "README.md"


class DocumentTest(DriftCase):
    def test_relation(self):
        relation = Relation([1, 2, 3, 4], [(1, 2), (2, 3), (1, 3), (3, 4)])
        self.assertEqual([relation.path(1, 4), relation.span(2), relation.order_count()], [[1, 3, 4], (1, 1), 1])

    def test_dissents(self):
        state = State([2, 4, 3, 1], [3, 1, 2, 4], [1, 4, 3, 2])
        self.assertEqual(
            [read(state).cycles(), dealing(state)],
            [[(1, 4, 3), (2, 4, 3)], [(1, 4, 0), (2, 4, 2), (3, 1, 2), (3, 2, 0), (4, 3, 1)]],
        )
        self.assertEqual(read(state).pinned(), [(1, 4), (2, 4), (3, 1), (3, 2), (4, 3)])

    def test_forced(self):
        state = State([2, 4, 3, 1], [3, 1, 2, 4], [1, 4, 3, 2])
        self.assertEqual(forced_dissents(state, 0), [(1, 2, [2, 3, 1])])

    def test_swaps(self):
        self.assertEqual(barred_by(State([1, 2], [2, 1], [1, 2]), (0, 0)), 1)
        self.assert_raises(AudibleSwap, {"step": 0}, apply_swap, State([1, 2], [2, 1], [1, 2]), (0, 0))

    def test_settling(self):
        self.assertEqual(str(settle_run(State([2, 1, 3], [1, 2, 3], [1, 3, 2]))), "0.0 2.1")

    def test_run_under_distances(self):
        start = State([4, 1, 2, 5, 6, 7, 3], [1, 3, 6, 2, 4, 5, 7], [2, 3, 5, 1, 7, 4, 6])
        goal = State([2, 4, 1, 7, 3, 5, 6], [1, 3, 4, 6, 2, 5, 7], [5, 1, 2, 3, 6, 7, 4])
        run = Run.read("2.4 2.5 0.4 0.5 0.3 0.4 2.1 2.2 2.0 2.1 0.1 0.0 1.3 1.2 2.4 2.5")
        self.assertEqual((play(start, run), play(goal, -run), len(run)), (goal, start, 16))
        self.assertIsNone(first_fault(start, run))

    def test_reach(self):
        start = State([1, 2, 3], [2, 3, 1], [3, 1, 2])
        goal = State([2, 3, 1], [1, 2, 3], [3, 1, 2])
        self.assertEqual(explain_reach(start, goal).text(), "not reachable: dealt otherwise in 1 2 3")

    def test_distances(self):
        start = State([4, 1, 2, 5, 6, 7, 3], [1, 3, 6, 2, 4, 5, 7], [2, 3, 5, 1, 7, 4, 6])
        goal = State([2, 4, 1, 7, 3, 5, 6], [1, 3, 4, 6, 2, 5, 7], [5, 1, 2, 3, 6, 7, 4])
        run = Run.read("2.4 2.5 0.4 0.5 0.3 0.4 2.1 2.2 2.0 2.1 0.1 0.0 1.3 1.2 2.4 2.5")
        found = [word_distance(start, goal), useful_swaps(start, goal), bounds(start, goal)[0]]
        self.assertEqual([*found, is_shortest(start, goal, run)], [14, [], 16, True])

    def test_freedom(self):
        freedom = Freedom(State([2, 4, 3, 1], [3, 1, 2, 4], [1, 4, 3, 2]))
        self.assertEqual([freedom.placed(0), freedom.list_count(0)], [[(1, 3), (2, 0), (3, 2), (4, 1)], 1])

    def test_dealings(self):
        self.assertEqual(census(3), (8, 18))
        pairs = [
            (0, 1), (0, 2), (3, 0), (0, 4), (0, 5), (1, 2), (1, 3), (1, 4), (5, 1), (2, 3), (2, 4), (5, 2), (4, 3),
            (5, 3), (4, 5),
        ]
        shares = [
            (0, 1, 0), (0, 2, 1), (3, 0, 2), (0, 4, 0), (0, 5, 1), (1, 3, 1), (1, 4, 2), (5, 1, 0), (2, 3, 0),
            (2, 4, 0), (5, 2, 2), (4, 3, 1), (5, 3, 0), (4, 5, 1),
        ]
        reading = Reading([0, 1, 2, 3, 4, 5], pairs)
        self.assert_raises(NoDealing, {"reason": ("clash", 1, 2, 1, 2)}, build, reading, shares)

    def test_cluster_state_by_a_swap(self):
        state = State.same([1, 2, 3])
        self.assertIn((1, 0), silent_swaps(state))
        self.assertEqual(str(apply_swap(state, (1, 0))), "1 2 3 / 2 1 3 / 1 2 3")

    def test_rebuilding(self):
        reading = Reading([1, 2, 3], [(1, 2), (2, 3), (3, 1)])
        self.assertEqual(reading, read(State([1, 2, 3], [2, 3, 1], [3, 1, 2])))
        lost = LostReplica([1, 2, 3], [2, 3, 1], reading)
        self.assertEqual([lost.order_count(), lost.settled_list()], [1, [3, 1, 2]])

    def test_policies(self):
        three = ThreeWay([1, 2, 3, 4], [2, 1, 3, 4], [1, 3, 2, 4])
        found = [three.conflicts(), resolve(three), violations(three, [2, 1, 3, 4])]
        self.assertEqual(found, [[((1, 3, 2), ("nobody", "yours", "mine"))], [2, 1, 3, 4], [(3, 2)]])

    def test_cachesets(self):
        self.assertIs(CacheSet([1, 2, 3], [1, 2], [(1, 2, 3)]).forced((3,), [(1,), (2,)]), False)

    def test_views(self):
        flat = TierList([[0, 1, 2]])
        start = Trio(flat, TierList([[0], [1, 2]]), TierList([[0, 2], [1]]))
        goal = Trio(TierList([[0], [1, 2]]), flat, TierList([[0, 2], [1]]))
        found = [trio_explain(start, goal), trio_reaches(loosen(start), loosen(goal))]
        self.assertEqual(found, [("dealt", ((0, 1), (0, 2), (2, 1))), True])

    def test_resizing(self):
        run = project_run(State.same([1, 2, 3]), Run.of((0, 0), (0, 1)), 2)
        self.assertEqual(run.steps(), [(0, 0)])

    def test_deeds(self):
        wanted = [("swap", 0, 1), ("rewrite", 2, (3, 1, 2)), ("settle",)]
        self.assertEqual(parse_deeds("swap 0 1\nrewrite 2 3 1 2\nsettle"), wanted)
        self.assert_raises(InvalidLine, {"line": 2}, parse_deeds, "swap 0 1\n")

    def test_clusters(self):
        cluster = Cluster(State.same([1, 2, 3]))
        swaps = cluster.do_swap(1, 0)
        found = [swaps, cluster.drift, cluster.journal(), str(cluster.state())]
        self.assertEqual(found, [1, 1, "swap 1 0", "1 2 3 / 2 1 3 / 1 2 3"])


class ReadmeTest(unittest.TestCase):
    def test_examples(self):
        failed, tried = doctest.testfile(str(README), module_relative=False)
        self.assertEqual(failed, 0)
        self.assertGreater(tried, 0)


if __name__ == "__main__":
    unittest.main()
