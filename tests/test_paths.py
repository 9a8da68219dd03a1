"""Point 36: basic changes of Trios made one after the other."""

import unittest
from itertools import product

from quorumdrift.cachesets import CacheSet
from quorumdrift.contents import Contents
from quorumdrift.dependencysets import DependencySet
from quorumdrift.errors import AudibleChange, InvalidChange, NotReachable, UnknownReplica, UnlikeContents
from quorumdrift.orderlists import OrderList
from quorumdrift.paths import expand_change, play_path, settle_path, trio_explain, trio_path, trio_reaches
from quorumdrift.shardmaps import ShardMap
from quorumdrift.tierlists import TierList
from quorumdrift.trios import Trio
from tests.helpers import DriftCase
from tests.oracles import WRONG_REPLICAS, subsets_of_replicas
from tests.trio_oracles import CASES, CONFLICTS, FEW, FOUR, FOURS, THREE, THREES, Case, every, neighbours, some_cases

MOVERS = subsets_of_replicas() + [[2, 0, 2], (1, 1), [2, 1, 0, 0]]


def path_of(steps):
    """A path with words in the place of contents."""
    return [(replica, tuple(contents.words())) for replica, contents in steps]


def settled(case, replicas, picks):
    """The settling path of a Case with these picks, as words, and the Case to which it leads."""
    path = []
    choices = case.homeward(replicas)
    while choices:
        at = picks[len(path)] % len(choices) if len(path) < len(picks) else 0
        path.append(choices[at][:2])
        case = choices[at][2]
        choices = case.homeward(replicas)
    return path, case


def reason_for(start, goal, movers):
    """The reason that comes first by the document's words, or None."""
    for place in start.places:
        if (place in start.reading()) != (place in goal.reading()):
            return ("read", place)
    for conflict in start.conflicts():
        if any(start.dissenters(place) != goal.dissenters(place) for place in conflict):
            return ("dealt", conflict)
    for replica in range(3):
        for place in start.places:
            if replica not in movers and (place in start.words[replica]) != (place in goal.words[replica]):
                return ("mover", replica, place)
    return None


def pairs_of_cases():
    """Pairs of Cases of one kind and one list of keys: of one class and of different ones."""
    found = []
    for seed, start in enumerate(FEW[::9] + THREES[::5] + FOURS[::3] + CONFLICTS[::2]):
        found += [(start, start.walked(many, seed)) for many in (0, 1, 4)]
        found += [(start, start.walked(5, seed, movers)) for movers in ((0, 2), (1,))]
        # The same contents in other replicas are read alike, but dealt otherwise where there is a conflict.
        first, second, third = start.words
        found.append((start, Case(start.place, start.keys, (second, third, first)).walked(2, seed)))
        found.append((start, Case(start.place, start.keys, (third, second, first))))
        words = list(every(start.place, start.keys))
        found.append((start, start.with_words(seed % 3, words[seed % len(words)])))
    return found


PAIRS = pairs_of_cases()
UNLIKE = [
    OrderList([1, 2, 3]), OrderList([1, 2]), ShardMap([[1, 2, 3]]), DependencySet([1, 2, 3], []), TierList([[1, 2, 3]]),
    CacheSet([1, 2, 3], [], []), CacheSet([1, 2, 3], [], [(1, 2, 3)]), CacheSet([1, 2], [], []), OrderList([]),
]


class SettlePathTest(DriftCase):
    def test_the_first_homeward_change_again_and_again(self):
        steps = 0
        for case in CASES:
            trio = case.trio()
            path, home = settled(case, (0, 1, 2), ())
            found = settle_path(trio)
            self.assertIs(type(found), list)
            self.assertEqual(path_of(found), path)
            self.assertEqual(play_path(trio, found), home.trio())
            self.assertEqual(trio.closed_home(), home.trio())
            self.assertEqual(trio, case.trio())
            steps += len(path)
        self.assertGreater(steps, 500)

    def test_some_replicas(self):
        for case in CASES[::4]:
            for replicas in MOVERS:
                path, home = settled(case, replicas, ())
                found = settle_path(case.trio(), replicas=replicas)
                self.assertEqual(path_of(found), path)
                self.assertEqual(play_path(case.trio(), found), home.trio())

    def test_picks_in_range_and_beyond(self):
        changed = 0
        for case in CASES[::3]:
            first, home = settled(case, (0, 1, 2), ())
            for picks in ([1], (0, 2, 1), [1] * 3, [7, 100, 5, 3, 2, 1000], (2,) * 20, []):
                for replicas in ((0, 1, 2), [2, 0]):
                    path, there = settled(case, replicas, picks)
                    found = settle_path(case.trio(), replicas=replicas, picks=picks)
                    self.assertEqual(path_of(found), path)
                    if len(replicas) == 3:
                        self.assertEqual(there.words, home.words)
                        changed += path != first
        self.assertGreater(changed, 100)

    def test_unknown_replicas(self):
        for case in some_cases(THREE, 1, 1):
            for wrong in WRONG_REPLICAS:
                for replicas in ((wrong,), [0, wrong, 77], [wrong, -9]):
                    self.assert_raises(
                        UnknownReplica, {"replica": wrong}, settle_path, case.trio(), replicas=replicas, picks=[1],
                    )

    def test_by_keyword_only(self):
        trio = FEW[0].trio()
        self.assertRaises(TypeError, settle_path, trio, (0, 1))
        for action in (trio_reaches, trio_explain, trio_path):
            self.assertRaises(TypeError, action, trio, trio, (0, 1))


class PlayPathTest(DriftCase):
    def test_each_kind_of_step(self):
        counts = {"silent": 0, "audible": 0, "invalid": 0}
        for case in CASES[::7]:
            trio = case.trio()
            prefix = [change[:2] for change in case.silent()[:1]] if case.homeward() == [] else []
            now = case.with_words(*prefix[0]) if prefix else case
            steps = [(replica, case.contents(words)) for replica, words in prefix]
            for replica in range(3):
                for words, contents in list(every(case.place, case.keys).items())[::2]:
                    path = steps + [(replica, contents), (0, Contents([]))]
                    if words not in neighbours(case.place, case.keys)[now.words[replica]]:
                        counts["invalid"] += 1
                        self.assert_raises(InvalidChange, {"step": len(steps)}, play_path, trio, path)
                    elif now.with_words(replica, words).reading() != case.reading():
                        counts["audible"] += 1
                        self.assert_raises(AudibleChange, {"step": len(steps)}, play_path, trio, path)
                    else:
                        counts["silent"] += 1
                        self.assertEqual(play_path(trio, path[:-1]), now.with_words(replica, words).trio())
                        self.assert_raises(InvalidChange, {"step": len(steps) + 1}, play_path, trio, path)
        self.assertGreater(min(counts.values()), 100)

    def test_the_empty_path(self):
        for case in CASES[::20]:
            self.assertEqual(play_path(case.trio(), []), case.trio())

    def test_no_replica(self):
        for case in some_cases(THREE, 2, 3):
            change = case.contents(neighbours(case.place, case.keys)[case.words[0]][0])
            for replica in WRONG_REPLICAS:
                self.assert_raises(InvalidChange, {"step": 0}, play_path, case.trio(), [(replica, change)])
                self.assert_raises(InvalidChange, {"step": 0}, play_path, case.trio(), [(replica, Contents([]))])

    def test_contents_that_do_not_fit(self):
        for one, other in product(UNLIKE, UNLIKE + [Contents([1, 2, 3]), Contents([])]):
            trio = Trio(one, one, one)
            change = one.changes()[:1]
            # Also the contents that the replica has are no change.
            self.assert_raises(InvalidChange, {"step": 0}, play_path, trio, [(1, other)])
            if change:
                path = [(1, change[0]), (1, one), (1, other)]
                if other not in one.changes():
                    self.assert_raises(InvalidChange, {"step": 2}, play_path, trio, path)

    def test_a_change_of_another_book(self):
        trio = Trio(*[CacheSet([1, 2, 3], [1], [(1, 2, 3)])] * 3)
        self.assert_raises(InvalidChange, {"step": 0}, play_path, trio, [(0, CacheSet([1, 2, 3], [], []))])
        self.assertEqual(play_path(trio, [(0, CacheSet([3, 2, 1], [], [(3, 2, 1)]))]).contents_of(0).held(), [])

    def test_invalid_ahead_of_audible(self):
        trio = Trio(OrderList([1, 2, 3]), OrderList([2, 1, 3]), OrderList([1, 2, 3]))
        self.assert_raises(AudibleChange, {"step": 0}, play_path, trio, [(0, OrderList([2, 1, 3])), (9, None)])
        self.assert_raises(InvalidChange, {"step": 0}, play_path, trio, [(0, OrderList([3, 2, 1])), (9, None)])


class ReachesTest(DriftCase):
    def test_against_a_search(self):
        counts = {True: 0, False: 0}
        for seed, start in enumerate(FEW[::17] + THREES[::25] + CONFLICTS[::8]):
            for movers in MOVERS[::2]:
                found = start.spread(movers)
                words = list(every(start.place, start.keys))
                goals = [start, start.walked(3, seed, movers), start.walked(2, seed)]
                goals += [start.with_words(replica, words[(seed * 5) % len(words)]) for replica in range(3)]
                goals += [Case(start.place, start.keys, start.words[1:] + start.words[:1])]
                for goal in goals:
                    wanted = goal.words in found
                    counts[wanted] += 1
                    self.assertIs(trio_reaches(start.trio(), goal.trio(), movers=movers), wanted)
                    self.assertIs(trio_explain(start.trio(), goal.trio(), movers=movers) is None, wanted)
        self.assertGreater(min(counts.values()), 100)

    def test_the_reason_that_comes_first(self):
        kinds = {None: 0, "read": 0, "dealt": 0, "mover": 0}
        for start, goal in PAIRS:
            for movers in MOVERS:
                wanted = reason_for(start, goal, movers)
                kinds[wanted and wanted[0]] += 1
                self.assertEqual(trio_explain(start.trio(), goal.trio(), movers=movers), wanted)
                self.assertIs(trio_reaches(start.trio(), goal.trio(), movers=movers), wanted is None)
        self.assertGreater(min(kinds.values()), 100)

    def test_all_replicas_may_move_if_none_are_named(self):
        for start, goal in PAIRS[::3]:
            self.assertIs(trio_reaches(start.trio(), goal.trio()), reason_for(start, goal, (0, 1, 2)) is None)
            self.assertEqual(trio_explain(start.trio(), goal.trio()), reason_for(start, goal, (0, 1, 2)))

    def test_some_reasons(self):
        flat, one, two = TierList([[0, 1, 2]]), TierList([[0], [1, 2]]), TierList([[0, 2], [1]])
        start, goal = Trio(flat, one, two), Trio(one, flat, two)
        conflict = ((0, 1), (0, 2), (2, 1))
        self.assertEqual(trio_explain(start, goal), ("dealt", conflict))
        self.assertEqual(trio_explain(start, goal, movers=()), ("dealt", conflict))
        # All three are read with (0, 1) on and nothing else; start and goal differ in the replicas 0 and 1.
        start = Trio(*[CacheSet([1, 2], held, []) for held in ([1], [2], [1, 2])])
        goal = Trio(*[CacheSet([1, 2], held, []) for held in ([], [1, 2], [1, 2])])
        self.assertIsNone(trio_explain(start, goal, movers=[1, 0]))
        self.assertEqual(trio_explain(start, goal, movers=[0]), ("mover", 1, (1,)))
        self.assertEqual(trio_explain(start, goal, movers=[2, 1]), ("mover", 0, (1,)))
        self.assertEqual(trio_explain(start, goal, movers=[]), ("mover", 0, (1,)))


class PathTest(DriftCase):
    def test_there_and_back(self):
        reached = 0
        for start, goal in PAIRS[::2] + PAIRS[1::4]:
            for movers in MOVERS[1::3]:
                reason = reason_for(start, goal, movers)
                if reason is not None:
                    self.assert_raises(
                        NotReachable, {"certificate": reason}, trio_path, start.trio(), goal.trio(), movers=movers,
                    )
                    continue
                path = trio_path(start.trio(), goal.trio(), movers=movers)
                there, _ = settled(start, movers, ())
                back, wanted, now = [], list(there), goal
                for replica, words in settled(goal, movers, ())[0]:
                    back.append((replica, now.words[replica]))
                    now = now.with_words(replica, words)
                wanted += back[::-1]
                self.assertIs(type(path), list)
                self.assertEqual(path_of(path), wanted)
                self.assertEqual(play_path(start.trio(), path), goal.trio())
                self.assertTrue(all(replica in movers for replica, _ in path))
                reached += len(path) > 0
        self.assertGreater(reached, 100)

    def test_all_replicas_may_move_if_none_are_named(self):
        for start, goal in PAIRS[1::8]:
            found = trio_path(start.trio(), goal.trio())
            self.assertEqual(path_of(found), path_of(trio_path(start.trio(), goal.trio(), movers=(2, 1, 0))))
            self.assertEqual(play_path(start.trio(), found), goal.trio())

    def test_to_itself(self):
        one, two, three = OrderList([2, 1]), OrderList([1, 2]), OrderList([1, 2])
        trio = Trio(one, two, three)
        self.assertEqual(trio_path(trio, trio), [(0, two), (0, one)])
        self.assertEqual(trio_path(trio, trio, movers=[1]), [])

    def test_one_replica_alone(self):
        expanded = 0
        for case in CASES[::5]:
            trio = case.trio()
            for replica in range(3):
                for words, contents in list(every(case.place, case.keys).items())[::4]:
                    after = case.with_words(replica, words)
                    if after.reading() != case.reading():
                        self.assert_raises(AudibleChange, {"step": 0}, expand_change, trio, replica, contents)
                        continue
                    path = expand_change(trio, replica, contents)
                    self.assertEqual(path, trio_path(trio, after.trio(), movers=[replica]))
                    self.assertEqual(play_path(trio, path), after.trio())
                    self.assertEqual({step[0] for step in path} - {replica}, set())
                    expanded += len(path) > 1
        self.assertGreater(expanded, 100)

    def test_the_example_of_tiers(self):
        flat, parted = TierList([[1, 2, 3]]), TierList([[1], [2], [3]])
        trio = Trio(TierList([[3], [2], [1]]), parted, parted)
        path = expand_change(trio, 0, flat)
        self.assertEqual(play_path(trio, path).contents_of(0), flat)
        self.assertEqual(path[-1], (0, flat))

    def test_errors_of_expanding(self):
        one = OrderList([1, 2, 3])
        trio = Trio(one, one, OrderList([2, 1, 3]))
        self.assert_raises(AudibleChange, {"step": 0}, expand_change, trio, 1, OrderList([2, 3, 1]))
        for other in UNLIKE[1:] + [Contents([1, 2, 3])]:
            self.assert_raises(UnlikeContents, {}, expand_change, trio, 1, other)
            for replica in WRONG_REPLICAS:
                self.assert_raises(UnknownReplica, {"replica": replica}, expand_change, trio, replica, other)


class ErrorsTest(DriftCase):
    def test_unlike_contents(self):
        for one, other in product(UNLIKE, repeat=2):
            if one is not other:
                for action in (trio_reaches, trio_explain, trio_path):
                    for movers in ((), [1], (0, 1, 2)):
                        start, goal = Trio(one, one, one), Trio(other, other, other)
                        self.assert_raises(UnlikeContents, {}, action, start, goal, movers=movers)

    def test_unknown_replicas_come_first(self):
        for one, other in product(UNLIKE[:3], repeat=2):
            for wrong in WRONG_REPLICAS:
                for movers in ((wrong,), [1, 1, wrong, 77], [wrong, -9, 0]):
                    for action in (trio_reaches, trio_explain, trio_path):
                        start, goal = Trio(one, one, one), Trio(other, other, other)
                        self.assert_raises(UnknownReplica, {"replica": wrong}, action, start, goal, movers=movers)

    def test_arguments_stay_as_they_were(self):
        start, goal = next((start, goal) for start, goal in PAIRS[1::8] if start.words != goal.words)
        trio, there, movers, picks = start.trio(), goal.trio(), [2, 0, 0, 1], [1, 0]
        path = trio_path(trio, there, movers=movers)
        kept = list(path)
        play_path(trio, path)
        settle_path(trio, replicas=movers, picks=picks)
        trio_reaches(trio, there, movers=movers)
        trio_explain(trio, there, movers=movers)
        self.assertEqual((movers, picks, path), ([2, 0, 0, 1], [1, 0], kept))
        self.assertEqual((trio, there), (start.trio(), goal.trio()))


class LargeTest(DriftCase):
    def test_eight_keys(self):
        order = [3, 6, 0, 7, 1, 5, 4, 2]
        flat, parted = TierList([order]), TierList([[key] for key in order])
        trio = Trio(flat, parted, TierList([order[4:], order[:4]]))
        goal = play_path(trio, [trio.silent_changes()[-1]])
        self.assertEqual(play_path(trio, trio_path(trio, goal)), goal)
        chain = [(order[at], order[to]) for at in range(8) for to in range(at + 1, 8)]
        three = [DependencySet(order, pairs) for pairs in (chain, [], [(y, x) for x, y in chain])]
        trio = Trio(*three)
        self.assertEqual(len(settle_path(trio)), 56)
        self.assertEqual(settle_path(trio, replicas=[1]), [])
        self.assertEqual(trio.closed_home(), Trio(three[1], three[1], three[1]))

    def test_four_keys_in_conflict(self):
        for case in [case for case in CONFLICTS if case.keys == FOUR][::5]:
            home = case.trio().closed_home()
            self.assertEqual(play_path(home, trio_path(home, case.trio())), case.trio())


if __name__ == "__main__":
    unittest.main()
