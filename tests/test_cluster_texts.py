"""Point 44: undo and redo, saved states, deeds of a text."""

import random
import unittest

from quorumdrift.audits import Audit
from quorumdrift.clusters import Cluster
from quorumdrift.deeds import deed_line
from quorumdrift.errors import AudibleSwap, DriftError, FailedLine, Full, InvalidLine, InvalidList, InvalidMove
from quorumdrift.errors import InvalidOption, InvalidSwap, NotAMover, NotReachable, NothingToRedo, NothingToUndo
from quorumdrift.errors import OutOfRange, SharedKey, UnknownKey, UnknownName, UnknownReplica, UnlikeKeys
from quorumdrift.settling import settle
from quorumdrift.states import State
from tests.helpers import DriftCase
from tests.oracles import CIRCLE, EMPTY, FIVES, SINGLE, WRONG_REPLICAS, silent_steps, state_of, walked
from tests.test_clusters import START, told

# Each deed once, one after the other from START on, with its swaps and the state to which it leads.
DEEDS = [
    (("swap", 2, 0), 1, "2 1 3 / 1 2 3 / 3 1 2"),
    (("rewrite", 2, (1, 2, 3)), 2, "2 1 3 / 1 2 3 / 1 2 3"),
    (("move", 0, 1, 2, 3), 1, "2 3 1 / 1 2 3 / 1 2 3"),
    (("settle",), 2, "1 2 3 / 1 2 3 / 1 2 3"),
    (("add", 9, 0, 3, 2), 0, "9 1 2 3 / 1 2 3 9 / 1 2 9 3"),
    (("drop", 2), 0, "9 1 3 / 1 3 9 / 1 9 3"),
    (("become", "9 1 3 / 1 9 3 / 1 3 9"), 4, "9 1 3 / 1 9 3 / 1 3 9"),
    (("settle",), 2, "1 9 3 / 1 9 3 / 1 9 3"),
]
TEXT = "\n".join(deed_line(deed) for deed, _, _ in DEEDS)


def do(cluster, deed):
    """Call the method of the deed."""
    word, *rest = deed
    if word == "rewrite":
        return cluster.do_rewrite(rest[0], list(rest[1]))
    if word == "become":
        return cluster.do_become(State.read(rest[0]))
    if word == "add":
        return cluster.add_key(rest[0], tuple(rest[1:]))
    if word == "drop":
        return cluster.drop_key(*rest)
    return {"swap": cluster.do_swap, "move": cluster.do_move, "settle": cluster.do_settle}[word](*rest)


def undone(cluster):
    """How many deeds can be done again; afterwards all is as before."""
    many = 0
    try:
        while True:
            cluster.redo()
            many += 1
    except NothingToRedo:
        for _ in range(many):
            cluster.undo()
    return many


def whole(cluster):
    """All that a cluster tells, and the states and deeds that redo would bring back."""
    found = [told(cluster)]
    many = undone(cluster)
    for _ in range(many):
        cluster.redo()
        found.append((cluster.state(), cluster.history(), cluster.drift))
    for _ in range(many):
        cluster.undo()
    return found


class UndoTest(DriftCase):
    def test_each_deed(self):
        cluster = Cluster(START)
        for deed, swaps, text in DEEDS:
            self.assertEqual((do(cluster, deed), str(cluster.state())), (swaps, text))
        for place in range(len(DEEDS) - 1, -1, -1):
            self.assertIsNone(cluster.undo())
            state = START if place == 0 else State.read(DEEDS[place - 1][2])
            drift = sum(swaps for _, swaps, _ in DEEDS[:place])
            self.assertEqual((cluster.state(), cluster.drift), (state, drift))
            self.assertEqual(cluster.history(), [deed for deed, _, _ in DEEDS[:place]])
        self.assert_raises(NothingToUndo, {}, cluster.undo)
        for place in range(len(DEEDS)):
            self.assertIsNone(cluster.redo())
            drift = sum(swaps for _, swaps, _ in DEEDS[:place + 1])
            self.assertEqual((str(cluster.state()), cluster.drift), (DEEDS[place][2], drift))
            self.assertEqual(cluster.history(), [deed for deed, _, _ in DEEDS[:place + 1]])
        self.assert_raises(NothingToRedo, {}, cluster.redo)
        self.assertEqual(cluster.journal(), TEXT)

    def test_nothing_to_undo_or_redo(self):
        for state in (EMPTY, START, CIRCLE):
            cluster = Cluster(state)
            for action, error_class in ((cluster.undo, NothingToUndo), (cluster.redo, NothingToRedo)):
                self.assert_raises(error_class, {}, action)
                self.assertEqual(told(cluster), (state, [], "", (0, 1, 2), 0, 100))

    def test_after_the_movers_were_changed(self):
        cluster = Cluster(START)
        for deed, _, _ in DEEDS:
            do(cluster, deed)
        for movers in ((), (1,), [2]):
            cluster.change("movers", movers)
            for place in range(len(DEEDS) - 1, -1, -1):
                cluster.undo()
                self.assertEqual(str(cluster.state()), DEEDS[place - 1][2] if place else str(START))
            for deed, swaps, text in DEEDS:
                before = cluster.drift
                cluster.redo()
                self.assertEqual((str(cluster.state()), cluster.drift), (text, before + swaps))
            self.assertEqual(cluster.movers(), tuple(movers))

    def test_a_settling_by_fewer_movers_is_done_again_as_it_was(self):
        cluster = Cluster(START, movers=[0])
        self.assertEqual(cluster.do_settle(), 1)
        cluster.undo()
        cluster.change("movers", (0, 1, 2))
        cluster.redo()
        self.assertEqual((str(cluster.state()), cluster.drift), ("1 2 3 / 1 2 3 / 1 3 2", 1))
        cluster.undo()
        self.assertEqual(cluster.do_settle(), 2)

    def test_neither_asks_for_capacity(self):
        cluster = Cluster(START, capacity=2)
        cluster.do_settle()
        cluster.do_settle()
        cluster.undo()
        cluster.undo()
        cluster.change("capacity", 0)
        cluster.redo()
        cluster.redo()
        cluster.undo()
        self.assertEqual((len(cluster.history()), cluster.capacity), (1, 0))

    def test_a_new_deed_empties_what_can_be_done_again(self):
        for deed, _, _ in DEEDS[:1] + [(("settle",), 0, ""), (("become", str(START)), 0, ""), (("add", 8, 0, 0, 0), 0, "")]:
            cluster = Cluster(START)
            cluster.do_settle()
            cluster.do_settle()
            cluster.undo()
            cluster.undo()
            do(cluster, deed)
            self.assert_raises(NothingToRedo, {}, cluster.redo)
            self.assertEqual(cluster.history(), [deed])

    def test_a_deed_that_fails_leaves_what_can_be_done_again(self):
        cluster = Cluster(START, movers=(0, 1), capacity=3)
        cluster.do_settle()
        cluster.do_settle()
        cluster.undo()
        before = whole(cluster)
        for call in (
            lambda: cluster.do_swap(2, 0), lambda: cluster.do_swap(5, 0), lambda: cluster.do_move(0, 1, 1, 2),
            lambda: cluster.do_rewrite(1, [1, 1]), lambda: cluster.do_become(-START), lambda: cluster.add_key(1, (0, 0, 0)),
            lambda: cluster.drop_key(8), lambda: cluster.restore("x"), lambda: cluster.saved("x"), lambda: cluster.audit("x"),
            lambda: cluster.change("movers", [5]), lambda: cluster.change("capacity", 0), lambda: cluster.change("x", 1),
            lambda: cluster.play_lines("settle\nswap 2 0"), lambda: cluster.play_lines("x"), lambda: cluster.trial("drop 8"),
        ):
            self.assertRaises(DriftError, call)
            self.assertEqual(whole(cluster), before)
        self.assertEqual(len(before), 2)

    def test_what_is_no_deed_leaves_what_can_be_done_again(self):
        cluster = Cluster(START)
        cluster.do_settle()
        cluster.save("settled")
        cluster.do_settle()
        cluster.undo()
        cluster.undo()
        before = whole(cluster)
        self.assertIsNone(cluster.save("start"))
        cluster.saved("settled")
        cluster.audit("settled")
        cluster.play_lines("")
        cluster.trial("settle\nadd 8 0 0 0")
        cluster.trial("")
        self.assertEqual(whole(cluster), before)
        cluster.change("capacity", 50)
        cluster.change("movers", [1, 2])
        cluster.capacity = 100
        cluster.change("movers", [0, 1, 2])
        self.assertEqual(whole(cluster), before)
        self.assertEqual(len(before), 3)

    def test_against_a_list_of_states(self):
        # Undo and redo walk to and fro in the list of the states that the deeds have led to.
        for seed in range(8):
            chance = random.Random(seed)
            start = state_of(3 + seed % 3, seed)
            cluster, states, deeds, swaps, at = Cluster(start), [start], [], [], 0
            for _ in range(60):
                step = chance.randrange(4)
                if step == 0 and at > 0:
                    cluster.undo()
                    at -= 1
                elif step == 1 and at < len(deeds):
                    cluster.redo()
                    at += 1
                else:
                    deed, many, state = some_deed(cluster, chance)
                    states, deeds, swaps = states[:at + 1] + [state], deeds[:at] + [deed], swaps[:at] + [many]
                    at += 1
                    self.assertEqual(do(cluster, deed), many)
                self.assertEqual((cluster.state(), cluster.history()), (states[at], deeds[:at]))
                self.assertEqual(cluster.drift, sum(swaps[:at]))
            self.assertEqual(undone(cluster), len(deeds) - at)


def some_deed(cluster, chance):
    """A deed that can be done, its swaps and the state to which it leads."""
    state = cluster.state()
    word = chance.choice(["swap", "become", "settle", "add", "drop"])
    if word == "swap" and len(state) > 1:
        lists = tuple(map(tuple, state.lists()))
        steps = silent_steps(lists)
        if steps:
            there = chance.choice(steps)
            replica = [mine != theirs for mine, theirs in zip(lists, there)].index(True)
            index = [x != y for x, y in zip(lists[replica], there[replica])].index(True)
            return ("swap", replica, index), 1, State(*map(list, there))
    if word == "drop" and len(state) > 2:
        key = chance.choice(state.all_keys())
        return ("drop", key), 0, State(*[[one for one in order if one != key] for order in state.lists()])
    if word == "add" and len(state) < 6:
        key = min(key for key in range(50, 80) if key not in state.all_keys())
        return ("add", key, 0, 0, 0), 0, State(*[[key] + order for order in state.lists()])
    if word == "become":
        goal = walked(state, 3, chance.randrange(1000))
        return ("become", str(goal)), Cluster(state).do_become(goal), goal
    return ("settle",), Cluster(state).do_settle(), settle(state)


class SavedTest(DriftCase):
    def test_states_under_names(self):
        cluster = Cluster(START)
        self.assertIsNone(cluster.save("start"))
        cluster.do_settle()
        cluster.save("")
        cluster.add_key(9, (0, 0, 0))
        cluster.save("a name\nof two lines")
        self.assertEqual(cluster.saved("start"), START)
        self.assertEqual(cluster.saved(""), settle(START))
        self.assertEqual(str(cluster.saved("a name\nof two lines")), "9 1 2 3 / 9 1 2 3 / 9 1 2 3")
        # An earlier state of that name is replaced.
        cluster.save("start")
        self.assertEqual(cluster.saved("start"), cluster.state())

    def test_undo_does_not_touch_them(self):
        cluster = Cluster(START)
        cluster.do_settle()
        cluster.save("settled")
        cluster.undo()
        self.assertEqual(cluster.saved("settled"), settle(START))
        cluster.redo()
        cluster.undo()
        self.assertEqual((cluster.saved("settled"), cluster.history()), (settle(START), []))

    def test_deeds_that_fail_do_not_touch_them(self):
        cluster = Cluster(START)
        cluster.save("start")
        self.assertRaises(FailedLine, cluster.play_lines, "settle\nswap 9 9")
        cluster.trial("settle")
        self.assertEqual(cluster.saved("start"), START)

    def test_unknown_names(self):
        cluster = Cluster(START, capacity=0)
        cluster.save("start")
        for name in ("", "Start", "start ", "other"):
            for action in (cluster.saved, cluster.restore, cluster.audit):
                # Ahead of Full.
                self.assert_raises(UnknownName, {"name": name}, action, name)
        self.assert_raises(Full, {"limit": 0}, cluster.restore, "start")
        self.assertEqual(told(cluster), (START, [], "", (0, 1, 2), 0, 0))

    def test_restore(self):
        cluster = Cluster(START)
        cluster.save("start")
        cluster.do_settle()
        self.assertEqual(cluster.restore("start"), 2)
        self.assertEqual(cluster.history(), [("settle",), ("become", str(START))])
        self.assertEqual((cluster.state(), cluster.drift), (START, 4))
        cluster.undo()
        self.assertEqual(cluster.state(), settle(START))
        cluster.redo()
        self.assertEqual(cluster.state(), START)
        # To the present state, too.
        self.assertEqual(cluster.restore("start"), 4)

    def test_errors_of_restoring(self):
        cluster = Cluster(START, movers=(0, 1))
        cluster.save("start")
        cluster.drop_key(2)
        self.assert_raises(UnlikeKeys, {"key": 2}, cluster.restore, "start")
        cluster.undo()
        cluster.change("movers", (2,))
        cluster.do_settle()
        cluster.change("movers", (0, 1))
        with self.assertRaises(NotReachable) as caught:
            cluster.restore("start")
        self.assertEqual(caught.exception.certificate.text(), "not reachable: replica 2 differs at 2 3")
        self.assertEqual(cluster.history(), [("settle",)])

    def test_audits(self):
        cluster = Cluster(START)
        cluster.save("start")
        cluster.do_settle()
        found = cluster.audit("start")
        self.assertIs(type(found), Audit)
        self.assertEqual((found.moved(), found.odd_pairs(0), found.odd_pairs(2)), ([0, 2], [(2, 1)], [(3, 2)]))
        self.assertEqual(found.shares(), (1, 0, 1))
        cluster.add_key(9, (0, 0, 0))
        self.assert_raises(UnlikeKeys, {"key": 9}, cluster.audit, "start")
        other = Cluster(State([1, 2], [2, 1], [2, 1]))
        other.save("start")
        other.drop_key(1)
        other.add_key(1, (0, 0, 0))
        self.assertRaises(NotReachable, other.audit, "start")
        self.assertEqual(other.history(), [("drop", 1), ("add", 1, 0, 0, 0)])


class PlayLinesTest(DriftCase):
    def test_each_deed(self):
        cluster = Cluster(START)
        self.assertEqual(cluster.play_lines(TEXT), sum(swaps for _, swaps, _ in DEEDS))
        self.assertEqual(cluster.history(), [deed for deed, _, _ in DEEDS])
        self.assertEqual((str(cluster.state()), cluster.journal()), (DEEDS[-1][2], TEXT))
        # Each is a deed of its own.
        for _ in DEEDS:
            cluster.undo()
        self.assertEqual((cluster.state(), cluster.drift, undone(cluster)), (START, 0, len(DEEDS)))

    def test_behind_other_deeds(self):
        cluster = Cluster(START)
        cluster.do_settle()
        self.assertEqual(cluster.play_lines("swap 0 0\nswap 0 0"), 2)
        self.assertEqual((cluster.journal(), cluster.drift), ("settle\nswap 0 0\nswap 0 0", 4))

    def test_no_deeds(self):
        cluster = Cluster(START, capacity=1)
        cluster.do_settle()
        self.assertEqual(cluster.play_lines(""), 0)
        cluster.undo()
        before = whole(cluster)
        self.assertEqual(cluster.play_lines(""), 0)
        self.assertEqual(whole(cluster), before)
        cluster.redo()
        self.assertEqual(cluster.state(), settle(START))

    def test_a_text_empties_what_can_be_done_again(self):
        cluster = Cluster(START)
        cluster.do_settle()
        cluster.undo()
        cluster.play_lines("settle")
        self.assertEqual((undone(cluster), cluster.journal()), (0, "settle"))

    def test_wrong_lines_come_before_any_deed(self):
        for text, line in (
            ("settle\n", 2), ("x", 1), ("swap 9 9\nx", 2), ("settle\nsettle\nswap 0\nx", 3), ("\n", 1), ("drop 77\n\n", 2),
        ):
            for capacity in (100, 1):
                cluster = Cluster(START, capacity=capacity)
                cluster.do_settle()
                cluster.undo()
                before = whole(cluster)
                for action in (cluster.play_lines, cluster.trial):
                    self.assert_raises(InvalidLine, {"line": line}, action, text)
                    self.assertEqual(whole(cluster), before)
                self.assert_raises(InvalidLine, {"line": line}, Cluster.replay, START, text)

    def test_deeds_that_fail(self):
        cases = [
            ("swap 3 0", 1, InvalidSwap, {"step": 0}),
            ("settle\nswap 1 5\nsettle", 2, InvalidSwap, {"step": 0}),
            ("settle\nsettle\nmove 0 1 1 2", 3, InvalidMove, {}),
            ("settle\nswap 2 0", 2, NotAMover, {"replica": 2}),
            ("rewrite 2 1 3 2", 1, NotAMover, {"replica": 2}),
            ("swap 1 0", 1, AudibleSwap, {"step": 0}),
            ("rewrite 0 1 2 3\nrewrite 1 3 2 1", 2, AudibleSwap, {"step": 2}),
            ("swap 0 0\nmove 1 1 2 3", 2, AudibleSwap, {"step": 0}),
            ("settle\nrewrite 9 1", 2, UnknownReplica, {"replica": 9}),
            ("settle\nrewrite 0 1 2 1", 2, InvalidList, {"place": 2}),
            ("settle\nrewrite 0 1 2", 2, UnlikeKeys, {"key": 3}),
            ("become 1 2 / 1 2 / 1 2", 1, UnlikeKeys, {"key": 3}),
            ("drop 3\nadd 7 0 0 3", 2, OutOfRange, {"limit": 2}),
            ("add 7 0 0 0\nadd 7 0 0 0", 2, SharedKey, {"key": 7}),
            ("drop 2\ndrop 2", 2, UnknownKey, {"key": 2}),
            ("settle\nsettle\nsettle\nsettle\nswap 9 9", 5, Full, {"limit": 4}),
            ("drop 2\nswap 0 0\nswap 0 0\nswap 0 0\nsettle\nsettle", 5, Full, {"limit": 4}),
        ]
        for text, line, error_class, attributes in cases:
            cluster = Cluster(START, movers=(0, 1), capacity=4)
            cluster.do_settle()
            cluster.undo()
            before = whole(cluster)
            actions = [cluster.play_lines, cluster.trial]
            actions.append(lambda text: Cluster.replay(START, text, movers=[1, 0], capacity=4))
            for action in actions:
                with self.assertRaises(FailedLine) as caught:
                    action(text)
                cause = caught.exception.__cause__
                self.assertEqual((type(caught.exception), vars(caught.exception)), (FailedLine, {"line": line}))
                self.assertEqual((type(cause), vars(cause)), (error_class, attributes))
                self.assertEqual(whole(cluster), before)
            cluster.redo()
            self.assertEqual(cluster.history(), [("settle",)])

    def test_a_goal_that_is_not_reached(self):
        cluster = Cluster(START)
        with self.assertRaises(FailedLine) as caught:
            cluster.play_lines("settle\nbecome 3 2 1 / 3 2 1 / 3 2 1")
        cause = caught.exception.__cause__
        self.assertEqual((type(cause), cause.certificate.text()), (NotReachable, "not reachable: read otherwise at 1 2"))
        self.assertEqual(told(cluster), (START, [], "", (0, 1, 2), 0, 100))

    def test_the_movers_hold_for_the_deeds_of_a_text(self):
        cluster = Cluster(START, movers=[2])
        self.assertEqual(cluster.play_lines("settle\nsettle\nbecome 2 1 3 / 1 2 3 / 3 1 2"), 3)
        self.assertEqual(cluster.state().list_of(0), [2, 1, 3])


class TrialTest(DriftCase):
    def test_the_state_that_is_reached(self):
        for place in range(len(DEEDS) + 1):
            cluster = Cluster(START)
            cluster.do_settle()
            cluster.undo()
            before = whole(cluster)
            text = "\n".join(deed_line(deed) for deed, _, _ in DEEDS[:place])
            self.assertEqual(str(cluster.trial(text)), DEEDS[place - 1][2] if place else str(START))
            self.assertEqual(whole(cluster), before)
            cluster.redo()
            self.assertEqual(cluster.state(), settle(START))

    def test_behind_other_deeds(self):
        cluster = Cluster(START, capacity=4)
        cluster.do_settle()
        cluster.do_swap(0, 0)
        cluster.undo()
        before = whole(cluster)
        self.assertEqual(str(cluster.trial("swap 1 0\nadd 5 3 0 3")), "1 2 3 5 / 5 2 1 3 / 1 2 3 5")
        self.assertEqual(whole(cluster), before)
        self.assertEqual((cluster.history(), undone(cluster)), ([("settle",)], 1))


class ReplayTest(DriftCase):
    def test_a_new_cluster(self):
        cluster = Cluster.replay(START, TEXT)
        self.assertIs(type(cluster), Cluster)
        self.assertEqual((cluster.journal(), str(cluster.state())), (TEXT, DEEDS[-1][2]))
        self.assertEqual((cluster.movers(), cluster.capacity, cluster.drift), ((0, 1, 2), 100, 12))
        again = Cluster.replay(START, cluster.journal())
        self.assertEqual(told(again), told(cluster))
        for _ in DEEDS:
            again.undo()
        self.assertEqual(again.state(), START)

    def test_movers_and_capacity(self):
        cluster = Cluster.replay(START, "settle\nsettle", movers=[2, 0], capacity=2)
        self.assertEqual((cluster.movers(), cluster.capacity, cluster.drift), ((0, 2), 2, 2))
        with self.assertRaises(FailedLine) as caught:
            Cluster.replay(START, "settle\nsettle", capacity=1)
        self.assertEqual(vars(caught.exception), {"line": 2})
        self.assertEqual(vars(caught.exception.__cause__), {"limit": 1})
        self.assertEqual(told(Cluster.replay(SINGLE, "")), told(Cluster(SINGLE)))

    def test_errors_of_the_new_cluster_come_first(self):
        for text in ("", "x", "swap 9 9"):
            for wrong in WRONG_REPLICAS:
                self.assert_raises(UnknownReplica, {"replica": wrong}, Cluster.replay, START, text, movers=[wrong], capacity=-1)
            self.assert_raises(InvalidOption, {"option": "capacity"}, Cluster.replay, START, text, capacity=-1)

    def test_journals_lead_to_the_same_state(self):
        for seed, state in enumerate(FIVES[:12]):
            chance, cluster = random.Random(seed), Cluster(state)
            for _ in range(10):
                do(cluster, some_deed(cluster, chance)[0])
            again = Cluster.replay(state, cluster.journal())
            self.assertEqual(told(again), told(cluster))


if __name__ == "__main__":
    unittest.main()
