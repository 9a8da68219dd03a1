"""Points 42 and 43: clusters and their deeds."""

import unittest
from itertools import product

from quorumdrift.clusters import Cluster
from quorumdrift.errors import AudibleSwap, Full, InvalidList, InvalidMove, InvalidOption, InvalidState, InvalidSwap
from quorumdrift.errors import NotAMover, NotReachable, OutOfRange, SharedKey, UnknownKey, UnknownReplica, UnlikeKeys
from quorumdrift.moves import expand_move, expand_rewrite
from quorumdrift.reach import explain_reach, route
from quorumdrift.resizing import insert_key
from quorumdrift.runs import play
from quorumdrift.settling import settle, settle_run
from quorumdrift.states import State
from tests.helpers import DriftCase
from tests.oracles import CIRCLE, EMPTY, FIVES, FOURS, SINGLE, TRIPLES, TWELVES, WRONG_REPLICAS, all_swaps
from tests.oracles import keeps_reading, missing_swaps_of, subsets_of_replicas, swapped, walked
from tests.test_lists import WRONG_LISTS

START = State([2, 1, 3], [1, 2, 3], [1, 3, 2])
SOME = [EMPTY, SINGLE, CIRCLE, START] + TRIPLES[::29] + FOURS[::9] + FIVES[1::9] + TWELVES[:1]


def told(cluster):
    """All that can be asked of a cluster, but what can be done again."""
    return (
        cluster.state(), cluster.history(), cluster.journal(), cluster.movers(), cluster.drift, cluster.capacity,
    )


def calls_of(cluster):
    """A call of each deed, none of which can be done on START by replica 0 alone without an error."""
    return [
        lambda: cluster.do_swap(9, 0), lambda: cluster.do_move(0, 2, 1, 1), lambda: cluster.do_rewrite(5, [1]),
        lambda: cluster.do_become(SINGLE), lambda: cluster.add_key(1, (0, 0, 0)), lambda: cluster.drop_key(77),
    ]


class DeedCase(DriftCase):
    def refuse(self, cluster, error_class, attributes, action, *arguments):
        """The deed raises the error and changes nothing."""
        before = told(cluster)
        self.assert_raises(error_class, attributes, action, *arguments)
        self.assertEqual(told(cluster), before)

    def do(self, cluster, action, arguments, deed, swaps, state):
        """The deed makes this many swaps and leads to this state."""
        history, drift = cluster.history(), cluster.drift
        self.assertEqual(action(*arguments), swaps)
        self.assertEqual(cluster.history(), history + [deed])
        self.assertEqual((cluster.state(), cluster.drift), (state, drift + swaps))


class NewClusterTest(DeedCase):
    def test_what_a_new_cluster_tells(self):
        for state in SOME:
            cluster = Cluster(state)
            self.assertEqual(told(cluster), (state, [], "", (0, 1, 2), 0, 100))
            self.assertIs(type(cluster.movers()), tuple)
            self.assertIs(type(cluster.history()), list)

    def test_movers(self):
        for movers, wanted in (
            ((), ()), ([], ()), ([2], (2,)), ((2, 0), (0, 2)), ([1, 1, 1], (1,)), ([2, 1, 0, 2], (0, 1, 2)),
        ):
            self.assertEqual(Cluster(START, movers=movers).movers(), wanted)

    def test_capacities(self):
        for capacity in (0, 1, 100, 10 ** 20):
            self.assertEqual(Cluster(START, capacity=capacity).capacity, capacity)

    def test_unknown_movers_and_then_wrong_capacities(self):
        for wrong in WRONG_REPLICAS:
            for movers in ([wrong], (0, wrong, 77), [wrong, -5]):
                for capacity in (100, 0, -1):
                    self.assert_raises(UnknownReplica, {"replica": wrong}, Cluster, START, movers=movers, capacity=capacity)
        for capacity in (-1, -2, -(10 ** 20)):
            self.assert_raises(InvalidOption, {"option": "capacity"}, Cluster, START, capacity=capacity)

    def test_by_keyword_only(self):
        self.assertRaises(TypeError, Cluster, START, (0, 1))
        self.assertRaises(TypeError, Cluster.replay, START, "", (0, 1))

    def test_a_list_of_movers_is_copied(self):
        movers = [2, 0]
        cluster = Cluster(START, movers=movers)
        movers.append(1)
        self.assertEqual(cluster.movers(), (0, 2))
        cluster.change("movers", movers)
        movers.clear()
        self.assertEqual(cluster.movers(), (0, 1, 2))

    def test_two_clusters_do_not_hang_together(self):
        one, other = Cluster(START), Cluster(START)
        one.do_settle()
        one.save("here")
        self.assertEqual(told(other), (START, [], "", (0, 1, 2), 0, 100))
        self.assertRaises(ValueError, other.saved, "here")


class OptionsTest(DeedCase):
    def test_capacity(self):
        cluster = Cluster(START)
        for number in (7, 0, 5, 10 ** 20):
            cluster.capacity = number
            self.assertEqual(cluster.capacity, number)
        cluster.do_settle()
        cluster.do_settle()
        for number in (2, 3, 2):
            cluster.capacity = number
            self.assertEqual(cluster.capacity, number)
        for number in (1, 0, -1, -(10 ** 20)):
            with self.assertRaises(InvalidOption) as caught:
                cluster.capacity = number
            self.assertEqual(vars(caught.exception), {"option": "capacity"})
            self.assertEqual(cluster.capacity, 2)

    def test_change(self):
        cluster = Cluster(START)
        self.assertIsNone(cluster.change("capacity", 3))
        self.assertIsNone(cluster.change("movers", [2, 0, 2]))
        self.assertEqual(told(cluster), (START, [], "", (0, 2), 0, 3))
        cluster.do_settle()
        self.assertIsNone(cluster.change("capacity", 1))
        self.assertIsNone(cluster.change("movers", ()))
        self.assertEqual((cluster.capacity, cluster.movers(), len(cluster.history())), (1, (), 1))

    def test_wrong_values(self):
        cluster = Cluster(START, movers=(1, 2))
        cluster.do_settle()
        for number in (0, -1):
            self.refuse(cluster, InvalidOption, {"option": "capacity"}, cluster.change, "capacity", number)
        for wrong in WRONG_REPLICAS:
            self.refuse(cluster, UnknownReplica, {"replica": wrong}, cluster.change, "movers", [0, wrong, -7])
        for option in ("", "Capacity", "drift", "state", "mover", "history", " movers"):
            for value in (5, [0], -1):
                self.refuse(cluster, InvalidOption, {"option": option}, cluster.change, option, value)

    def test_a_capacity_below_what_redo_brings_back(self):
        cluster = Cluster(START)
        for _ in range(3):
            cluster.do_settle()
        cluster.undo()
        cluster.undo()
        cluster.change("capacity", 1)
        cluster.redo()
        cluster.redo()
        self.assertEqual((len(cluster.history()), cluster.capacity), (3, 1))
        self.refuse(cluster, Full, {"limit": 1}, cluster.do_settle)
        self.refuse(cluster, InvalidOption, {"option": "capacity"}, cluster.change, "capacity", 2)
        cluster.change("capacity", 3)


class FullTest(DeedCase):
    def test_full_comes_before_all_other_errors(self):
        for capacity in (0, 1, 2):
            cluster = Cluster(START, movers=[0], capacity=capacity)
            for _ in range(capacity):
                cluster.do_settle()
            for call in calls_of(cluster) + [cluster.do_settle, lambda: cluster.do_swap(0, 0)]:
                self.refuse(cluster, Full, {"limit": capacity}, call)
            cluster.capacity = capacity + 1
            for call in calls_of(cluster):
                self.assertRaises(ValueError, call)
            cluster.do_settle()

    def test_a_deed_that_makes_no_swap_is_a_deed_like_any_other(self):
        cluster = Cluster(START, capacity=3)
        self.assertEqual([cluster.do_settle() for _ in range(3)], [2, 0, 0])
        self.assertEqual((cluster.history(), cluster.drift), ([("settle",)] * 3, 2))
        self.refuse(cluster, Full, {"limit": 3}, cluster.do_settle)
        cluster.undo()
        cluster.do_become(cluster.state())
        self.refuse(cluster, Full, {"limit": 3}, cluster.do_settle)


class SwapTest(DeedCase):
    def test_each_swap(self):
        done = 0
        for state in SOME:
            for movers in ((0, 1, 2), (0, 2), (1,), ()):
                for swap in all_swaps(state):
                    cluster = Cluster(state, movers=movers)
                    if swap[0] not in movers:
                        # Also ahead of a swap that is audible.
                        self.refuse(cluster, NotAMover, {"replica": swap[0]}, cluster.do_swap, *swap)
                    elif not keeps_reading(state, swap):
                        self.refuse(cluster, AudibleSwap, {"step": 0}, cluster.do_swap, *swap)
                    else:
                        self.do(cluster, cluster.do_swap, swap, ("swap", *swap), 1, swapped(state, swap))
                        done += 1
                for swap in missing_swaps_of(state):
                    cluster = Cluster(state, movers=movers)
                    self.refuse(cluster, InvalidSwap, {"step": 0}, cluster.do_swap, *swap)
        self.assertGreater(done, 100)


class MoveTest(DeedCase):
    def test_each_move(self):
        counts = {"done": 0, "audible": 0}
        for state in SOME[:-1]:
            places = range(-1, len(state) + 2)
            for replica, start, middle, end in product((-1, 0, 1, 2, 3), places, places, places):
                move = (replica, start, middle, end)
                cluster = Cluster(state, movers=(0, 2))
                if replica not in (0, 1, 2) or not 0 <= start < middle < end <= len(state):
                    self.assert_raises(InvalidMove, {}, cluster.do_move, *move)
                    continue
                if replica == 1:
                    self.refuse(cluster, NotAMover, {"replica": 1}, cluster.do_move, *move)
                    continue
                try:
                    run = expand_move(state, move)
                except AudibleSwap as error:
                    self.refuse(cluster, AudibleSwap, {"step": error.step}, cluster.do_move, *move)
                    counts["audible"] += 1
                else:
                    self.do(cluster, cluster.do_move, move, ("move", *move), len(run), play(state, run))
                    counts["done"] += 1
        self.assertGreater(min(counts.values()), 30)


class RewriteTest(DeedCase):
    def test_each_list(self):
        counts = {"done": 0, "audible": 0, "none": 0}
        for state in SOME:
            orders = [walked(state, many, many).list_of(many % 3) for many in range(6)] + state.lists()
            for replica, order, movers in product(range(3), orders, ((0, 1, 2), (1,))):
                cluster, given = Cluster(state, movers=movers), list(order)
                if replica not in movers:
                    self.refuse(cluster, NotAMover, {"replica": replica}, cluster.do_rewrite, replica, given)
                    continue
                try:
                    run = expand_rewrite(state, replica, order)
                except AudibleSwap as error:
                    self.refuse(cluster, AudibleSwap, {"step": error.step}, cluster.do_rewrite, replica, given)
                    counts["audible"] += 1
                else:
                    deed = ("rewrite", replica, tuple(order))
                    self.do(cluster, cluster.do_rewrite, (replica, given), deed, len(run), state.with_list(replica, order))
                    counts["done" if len(run) else "none"] += 1
                self.assertEqual(given, order)
        self.assertGreater(min(counts.values()), 20)

    def test_errors_in_their_order(self):
        cluster = Cluster(START, movers=[1])
        for replica in WRONG_REPLICAS:
            for order in ([1, 1], [1, 2], [1, 2, 3]):
                self.refuse(cluster, UnknownReplica, {"replica": replica}, cluster.do_rewrite, replica, order)
        for replica in (0, 1):
            for order, place in WRONG_LISTS:
                self.refuse(cluster, InvalidList, {"place": place}, cluster.do_rewrite, replica, order)
            for order, key in (([1, 2], 3), ([], 1), ([3, 2, 1, 0], 0), ([1, 2, 4], 3), (list(range(12)), 0)):
                self.refuse(cluster, UnlikeKeys, {"key": key}, cluster.do_rewrite, replica, order)
        # Also if the list would not change, and ahead of an audible swap.
        for order in ([2, 1, 3], [1, 2, 3], [3, 2, 1]):
            self.refuse(cluster, NotAMover, {"replica": 0}, cluster.do_rewrite, 0, order)
        self.refuse(cluster, AudibleSwap, {"step": 0}, cluster.do_rewrite, 1, [3, 2, 1])

    def test_the_deed_keeps_a_tuple(self):
        cluster, order = Cluster(START), [1, 2, 3]
        cluster.do_rewrite(0, order)
        order.reverse()
        self.assertEqual(cluster.history(), [("rewrite", 0, (1, 2, 3))])
        self.assertEqual(cluster.state().list_of(0), [1, 2, 3])


class SettleTest(DeedCase):
    def test_the_movers_settle(self):
        for state in SOME:
            for movers in subsets_of_replicas():
                cluster = Cluster(state, movers=movers)
                run = settle_run(state, replicas=movers)
                self.do(cluster, cluster.do_settle, (), ("settle",), len(run), settle(state, replicas=movers))


class BecomeTest(DeedCase):
    def test_states_of_one_class_and_others(self):
        counts = {True: 0, False: 0}
        for seed, state in enumerate(SOME):
            goals = [walked(state, many, seed) for many in (0, 1, 5)] + [-state]
            for goal, movers in product(goals, ((0, 1, 2), (0, 2), (1,), ())):
                cluster, certificate = Cluster(state, movers=movers), explain_reach(state, goal, movers=movers)
                counts[certificate is None] += 1
                if certificate is None:
                    run = route(state, goal, movers=movers)
                    self.do(cluster, cluster.do_become, (goal,), ("become", str(goal)), len(run), goal)
                else:
                    self.refuse(cluster, NotReachable, {"certificate": certificate}, cluster.do_become, goal)
        self.assertGreater(min(counts.values()), 40)

    def test_unlike_keys(self):
        cluster = Cluster(START)
        for goal, key in ((EMPTY, 1), (START - 2, 2), (State.same([1, 2, 4]), 3), (SINGLE, 1)):
            self.refuse(cluster, UnlikeKeys, {"key": key}, cluster.do_become, goal)


class KeysTest(DeedCase):
    def test_add_and_drop(self):
        for state in SOME[:-1]:
            for movers in ((0, 1, 2), ()):
                for positions in product((0, len(state)), repeat=3):
                    cluster = Cluster(state, movers=movers)
                    wanted = insert_key(state, 77, positions)
                    self.do(cluster, cluster.add_key, (77, positions), ("add", 77, *positions), 0, wanted)
                    self.do(cluster, cluster.drop_key, (77,), ("drop", 77), 0, state)
                for key in state.all_keys():
                    cluster = Cluster(state, movers=movers)
                    self.do(cluster, cluster.drop_key, (key,), ("drop", key), 0, state - key)

    def test_errors_of_adding(self):
        cluster = Cluster(START)
        for positions in ((0, 0, 0), (-1, 9, 0)):
            self.refuse(cluster, SharedKey, {"key": 2}, cluster.add_key, 2, positions)
        for positions in ((4, 0, 0), (0, -1, 0), (0, 0, 77)):
            for key in (7, -1, 10000):
                self.refuse(cluster, OutOfRange, {"limit": 3}, cluster.add_key, key, positions)
        for key in (-1, 10000):
            self.refuse(cluster, InvalidState, {"replica": 0}, cluster.add_key, key, (0, 3, 0))
        twelve = Cluster(TWELVES[0])
        self.refuse(twelve, InvalidState, {"replica": 0}, twelve.add_key, 77, (0, 3, 12))

    def test_errors_of_dropping(self):
        for state in SOME:
            cluster = Cluster(state)
            for key in (-1, 77, 10000):
                self.refuse(cluster, UnknownKey, {"key": key}, cluster.drop_key, key)


class TellingTest(DeedCase):
    def test_history_journal_and_drift(self):
        cluster = Cluster(START)
        swaps = [cluster.do_swap(2, 0), cluster.do_rewrite(2, [1, 2, 3]), cluster.do_move(0, 1, 2, 3)]
        swaps += [cluster.do_settle(), cluster.add_key(9, (0, 3, 2)), cluster.drop_key(2)]
        swaps += [cluster.do_become(State([9, 1, 3], [1, 9, 3], [1, 3, 9]))]
        wanted = [
            ("swap", 2, 0), ("rewrite", 2, (1, 2, 3)), ("move", 0, 1, 2, 3), ("settle",), ("add", 9, 0, 3, 2), ("drop", 2),
            ("become", "9 1 3 / 1 9 3 / 1 3 9"),
        ]
        self.assertEqual((cluster.history(), swaps, cluster.drift), (wanted, [1, 2, 1, 2, 0, 0, 4], 10))
        self.assertEqual(cluster.journal(), "\n".join([
            "swap 2 0", "rewrite 2 1 2 3", "move 0 1 2 3", "settle", "add 9 0 3 2", "drop 2",
            "become 9 1 3 / 1 9 3 / 1 3 9",
        ]))
        cluster.history().clear()
        self.assertEqual(cluster.history(), wanted)

    def test_states_that_were_handed_out_do_not_change(self):
        cluster = Cluster(START)
        before = cluster.state()
        cluster.do_settle()
        self.assertEqual(before, START)
        cluster.state().lists()[0].clear()
        self.assertEqual(cluster.state(), settle(START))

    def test_drift_cannot_be_assigned(self):
        cluster = Cluster(START)
        with self.assertRaises(AttributeError):
            cluster.drift = 3
        self.assertEqual(cluster.drift, 0)


if __name__ == "__main__":
    unittest.main()
