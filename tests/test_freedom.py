"""Point 21: what the replicas can still become by silent swaps."""

import unittest
from itertools import permutations, product

from quorumdrift.errors import CannotHold, InvalidList, UnknownKey, UnknownReplica, UnlikeKeys
from quorumdrift.freedom import Freedom
from quorumdrift.reach import route
from quorumdrift.relations import Relation
from quorumdrift.runs import Run, play
from quorumdrift.settling import settle
from quorumdrift.states import State
from tests.helpers import DriftCase, shuffled, stands_before
from tests.oracles import CIRCLE, EMPTY, FOURS, PAIRS, SINGLE, TRIPLES, TWELVES, WRONG_REPLICAS
from tests.oracles import circles, dissenters, members_of, pinned_pairs, read_before, read_pairs, state_of, walked
from tests.test_forced import settled_by_swaps
from tests.test_lists import WRONG_LISTS

FIVES = [state for state in (state_of(5, seed) for seed in range(41, 161, 2)) if circles(state)][:9]
EXAMPLE = State([2, 4, 3, 1], [3, 1, 2, 4], [1, 4, 3, 2])
SMALL = [EMPTY, SINGLE, CIRCLE, EXAMPLE] + PAIRS + TRIPLES[::9] + FOURS[:24:2] + FIVES
# Each small state with the lists of all states of its class.
CLASSES = [(state, members_of(state)) for state in SMALL]


def lists_held(members, replica):
    """The lists that the replica has in some of the states, ascending, each once."""
    return sorted({tuple(lists[replica]) for lists in members})


def against(state, order):
    """The pairs at which a list says the opposite of what is read."""
    return {(x, y) for x, y in read_pairs(state) if stands_before(order, y, x)}


class SettledTest(DriftCase):
    def test_against_homeward_swaps(self):
        for state in SMALL + TWELVES:
            home = Freedom(state).settled()
            self.assertIs(type(home), State)
            self.assertEqual(home, settled_by_swaps(state))
            self.assertEqual(home, settle(state))


class RelationTest(DriftCase):
    def test_it_keeps_the_lists_that_can_be_held(self):
        for state, members in CLASSES:
            for replica in range(3):
                relation = Freedom(state).relation(replica)
                self.assertIs(type(relation), Relation)
                self.assertEqual(relation.all_keys(), state.all_keys())
                self.assertEqual([tuple(order) for order in relation.each_order()], lists_held(members, replica))

    def test_its_pairs(self):
        chains = 0
        for state in SMALL + TWELVES:
            home = settled_by_swaps(state)
            for replica in range(3):
                relation = Freedom(state).relation(replica)
                given = [(y, x) for x, y in pinned_pairs(state) if dissenters(state, x, y) == [replica]]
                given += [(x, y) for x, y in read_pairs(state) if dissenters(home, x, y) not in ([], [replica])]
                self.assertEqual(relation, Relation(state.all_keys(), given))
                for x, y in permutations(state.all_keys(), 2):
                    # Only a pair that was given has a path without a key between.
                    self.assertIs(relation.path(x, y) == [x, y], (x, y) in given)
                    chains += relation.implies(x, y) and (x, y) not in given
        self.assertGreater(chains, 10)


class MaySayTest(DriftCase):
    def test_against_a_search(self):
        counts = {True: 0, False: 0}
        for state, members in CLASSES:
            freedom = Freedom(state)
            for replica in range(3):
                held = lists_held(members, replica)
                for x, y in product(state.all_keys(), repeat=2):
                    wanted = x != y and any(stands_before(order, x, y) for order in held)
                    self.assertIs(freedom.may_say(replica, x, y), wanted)
                    counts[wanted] += 1
        self.assertGreater(min(counts.values()), 200)

    def test_may_dissent(self):
        counts = {True: 0, False: 0}
        for state, members in CLASSES:
            freedom = Freedom(state)
            for replica in range(3):
                held = lists_held(members, replica)
                for x, y in product(state.all_keys(), repeat=2):
                    word = read_before(state, x, y)
                    wanted = x != y and any(stands_before(order, x, y) != word for order in held)
                    self.assertIs(freedom.may_dissent(replica, x, y), wanted)
                    counts[wanted] += 1
        self.assertGreater(min(counts.values()), 200)

    def test_equal_keys(self):
        for state in (SINGLE, CIRCLE, EXAMPLE, TWELVES[0]):
            for replica, key in product(range(3), state.all_keys()):
                self.assertIs(Freedom(state).may_say(replica, key, key), False)
                self.assertIs(Freedom(state).may_dissent(replica, key, key), False)


class FixedTest(DriftCase):
    def test_fixed_pairs(self):
        for state, members in CLASSES:
            for replica in range(3):
                held = lists_held(members, replica)
                wanted = [
                    pair for pair in sorted(permutations(state.all_keys(), 2))
                    if all(stands_before(order, *pair) for order in held)
                ]
                self.assertEqual(Freedom(state).fixed_pairs(replica), wanted)

    def test_span_and_placed(self):
        wide = 0
        for state, members in CLASSES:
            freedom = Freedom(state)
            for replica in range(3):
                held = lists_held(members, replica)
                placed = []
                for key in state.all_keys():
                    places = {order.index(key) for order in held}
                    self.assertEqual(places, set(range(min(places), max(places) + 1)))
                    self.assertEqual(freedom.span(replica, key), (min(places), max(places)))
                    if len(places) == 1:
                        placed.append((key, min(places)))
                    wide += len(places) > 1
                self.assertEqual(freedom.placed(replica), placed)
        self.assertGreater(wide, 50)

    def test_the_example(self):
        freedom = Freedom(EXAMPLE)
        self.assertEqual([freedom.placed(0), freedom.list_count(0)], [[(1, 3), (2, 0), (3, 2), (4, 1)], 1])
        for result in (freedom.placed(0), freedom.fixed_pairs(0)):
            self.assertEqual((type(result), type(result[0])), (list, tuple))
        self.assertIs(type(freedom.span(0, 1)), tuple)

    def test_without_keys(self):
        freedom = Freedom(EMPTY)
        for replica in range(3):
            found = [freedom.placed(replica), freedom.fixed_pairs(replica), freedom.list_count(replica)]
            self.assertEqual(found, [[], [], 1])
            self.assertIs(freedom.can_hold(replica, []), True)
        self.assertEqual((freedom.settled(), freedom.hold((1, []))), (EMPTY, EMPTY))


class CanHoldTest(DriftCase):
    def test_against_a_search(self):
        counts = {True: 0, False: 0}
        for state, members in CLASSES:
            freedom = Freedom(state)
            for replica in range(3):
                held = lists_held(members, replica)
                self.assertEqual(freedom.list_count(replica), len(held))
                for order in permutations(state.all_keys()):
                    wanted = order in held
                    self.assertIs(freedom.can_hold(replica, list(order)), wanted)
                    counts[wanted] += 1
        self.assertGreater(min(counts.values()), 200)

    def test_twelve_keys(self):
        freedom = Freedom(State.same(list(range(12))))
        self.assertEqual([freedom.list_count(replica) for replica in range(3)], [479001600] * 3)
        self.assertIs(freedom.can_hold(1, list(range(12))[::-1]), True)
        self.assertEqual(freedom.span(2, 7), (0, 11))
        self.assertEqual((freedom.placed(0), freedom.fixed_pairs(0)), ([], []))


class HoldTest(DriftCase):
    def test_one_claim(self):
        for state, members in CLASSES:
            freedom = Freedom(state)
            home = settled_by_swaps(state).lists()
            for replica in range(3):
                held = lists_held(members, replica)
                for order in permutations(state.all_keys()):
                    if order in held:
                        found = freedom.hold((replica, list(order)))
                        wanted = home[:replica] + [list(order)] + home[replica + 1:]
                        self.assertIs(type(found), State)
                        self.assertEqual(found.lists(), wanted)
                        self.assertIn(wanted, members)
                    else:
                        self.assert_raises(CannotHold, {"claim": 0}, freedom.hold, (replica, list(order)))

    def test_two_claims(self):
        counts = {True: 0, False: 0}
        for state, members in CLASSES:
            freedom = Freedom(state)
            home = settled_by_swaps(state).lists()
            for first, second in permutations(range(3), 2):
                pairs = list(product(lists_held(members, first), lists_held(members, second)))
                for mine, theirs in pairs[::max(1, len(pairs) // 25)]:
                    wanted = list(home)
                    wanted[first], wanted[second] = list(mine), list(theirs)
                    claims = [(first, list(mine)), (second, list(theirs))]
                    fits = not against(state, mine) & against(state, theirs)
                    self.assertIs(wanted in members, fits)
                    counts[fits] += 1
                    if fits:
                        self.assertEqual(freedom.hold(*claims).lists(), wanted)
                    else:
                        self.assert_raises(CannotHold, {"claim": 1}, freedom.hold, *claims)
        self.assertGreater(min(counts.values()), 100)

    def test_three_claims(self):
        counts = {True: 0, False: 0}
        for state, members in CLASSES:
            freedom = Freedom(state)
            triples = list(product(*[lists_held(members, replica) for replica in range(3)]))
            for lists in triples[::max(1, len(triples) // 40)] + [tuple(map(tuple, members[-1]))]:
                for order in permutations(range(3)):
                    claims = [(replica, list(lists[replica])) for replica in order]
                    turned = [against(state, lists[replica]) for replica in order]
                    if turned[0] & turned[1]:
                        self.assert_raises(CannotHold, {"claim": 1}, freedom.hold, *claims)
                    elif turned[2] & (turned[0] | turned[1]):
                        self.assert_raises(CannotHold, {"claim": 2}, freedom.hold, *claims)
                    else:
                        self.assertEqual(freedom.hold(*claims).lists(), [list(one) for one in lists])
                    counts[list(map(list, lists)) in members] += 1
        self.assertGreater(min(counts.values()), 100)

    def test_every_member_can_be_held(self):
        for state, members in CLASSES:
            for lists in members[::max(1, len(members) // 20)]:
                self.assertEqual(Freedom(state).hold(*enumerate(lists)).lists(), lists)

    def test_no_claims(self):
        for state in SMALL + TWELVES:
            self.assertEqual(Freedom(state).hold(), settled_by_swaps(state))

    def test_a_repeated_replica(self):
        freedom = Freedom(State.same([1, 2, 3]))
        for first, second in product(([1, 2, 3], [3, 2, 1]), repeat=2):
            self.assert_raises(CannotHold, {"claim": 1}, freedom.hold, (2, first), (2, second))
            claims = [(2, [1, 2, 3]), (0, first), (2, second)]
            self.assert_raises(CannotHold, {"claim": 2}, freedom.hold, *claims)

    def test_lists_that_dissent_at_one_pair(self):
        freedom = Freedom(State.same([1, 2, 3]))
        self.assert_raises(CannotHold, {"claim": 1}, freedom.hold, (0, [2, 1, 3]), (1, [2, 1, 3]))
        self.assert_raises(CannotHold, {"claim": 2}, freedom.hold, (0, [2, 1, 3]), (1, [1, 2, 3]), (2, [3, 2, 1]))
        self.assert_raises(CannotHold, {"claim": 2}, freedom.hold, (2, [1, 2, 3]), (1, [1, 3, 2]), (0, [1, 3, 2]))
        found = freedom.hold((2, [1, 3, 2]), (0, [2, 1, 3]))
        self.assertEqual(found.lists(), [[2, 1, 3], [1, 2, 3], [1, 3, 2]])

    def test_the_order_of_the_errors_of_a_claim(self):
        freedom = Freedom(CIRCLE)
        right = (0, [1, 2, 3])
        for replica in WRONG_REPLICAS:
            for order in ([1, 2, 3], [3, 2, 1], [5, 5], []):
                self.assert_raises(UnknownReplica, {"replica": replica}, freedom.hold, (replica, order))
                self.assert_raises(UnknownReplica, {"replica": replica}, freedom.hold, right, (replica, order))
        for order, place in WRONG_LISTS:
            for replica in range(3):
                self.assert_raises(InvalidList, {"place": place}, freedom.hold, (replica, order))
                # The same replica once more is told only when its list is a right one.
                self.assert_raises(InvalidList, {"place": place}, freedom.hold, right, (replica, order))
        for order, key in (([], 1), ([1, 2], 3), ([4, 3, 2, 1], 4), ([2, 3, 7], 1)):
            for replica in range(3):
                self.assert_raises(UnlikeKeys, {"key": key}, freedom.hold, (replica, order))
                self.assert_raises(UnlikeKeys, {"key": key}, freedom.hold, right, (replica, order))
        self.assert_raises(CannotHold, {"claim": 0}, freedom.hold, (0, [3, 2, 1]))

    def test_each_claim_whole_before_the_next_one(self):
        freedom = Freedom(State.same([1, 2, 3]))
        wrong = [(7, [1, 2, 3]), (1, [1, 1]), (1, [1, 2])]
        for later in wrong:
            self.assert_raises(CannotHold, {"claim": 1}, freedom.hold, (0, [1, 2, 3]), (0, [1, 2, 3]), later)
            self.assert_raises(CannotHold, {"claim": 0}, Freedom(CIRCLE).hold, (0, [3, 2, 1]), later)
        self.assert_raises(InvalidList, {"place": 1}, freedom.hold, wrong[1], wrong[0])
        self.assert_raises(UnlikeKeys, {"key": 3}, freedom.hold, wrong[2], wrong[1])
        self.assert_raises(UnknownReplica, {"replica": 7}, freedom.hold, wrong[0], wrong[1])


class ShowTest(DriftCase):
    def test_against_a_search(self):
        counts = {True: 0, False: 0}
        for state, members in CLASSES:
            freedom = Freedom(state)
            home = settled_by_swaps(state).lists()
            for replica in range(3):
                held = lists_held(members, replica)
                for x, y in product(state.all_keys(), repeat=2):
                    orders = [list(order) for order in held if x != y and stands_before(order, x, y)]
                    found = freedom.show(replica, x, y)
                    counts[orders != []] += 1
                    if not orders:
                        self.assertIsNone(found)
                        continue
                    goal = State(*(home[:replica] + [min(orders)] + home[replica + 1:]))
                    self.assertIs(type(found), Run)
                    self.assertEqual(found, route(state, goal))
                    self.assertEqual(play(state, found), goal)
                    self.assertTrue(goal.says(replica, x, y))
        self.assertGreater(min(counts.values()), 200)

    def test_twelve_keys(self):
        for state in TWELVES:
            for replica, (x, y) in product(range(3), list(permutations(state.all_keys(), 2))[::40]):
                found = Freedom(state).show(replica, x, y)
                self.assertIs(found is not None, Freedom(state).may_say(replica, x, y))
                if found is not None:
                    self.assertTrue(play(state, found).says(replica, x, y))

    def test_equal_keys(self):
        for replica in range(3):
            self.assertIsNone(Freedom(CIRCLE).show(replica, 2, 2))
            self.assertIsNone(Freedom(State.same([1, 2])).show(replica, 2, 2))

    def test_what_is_said_already(self):
        state = State([2, 1, 3], [1, 2, 3], [1, 3, 2])
        self.assertEqual(str(Freedom(state).show(0, 2, 1)), "0.0 2.1 0.0")
        self.assertEqual(str(Freedom(state).show(1, 1, 2)), "0.0 2.1")


class ErrorsTest(DriftCase):
    def test_unknown_replicas(self):
        for state, replica in product((EMPTY, CIRCLE, TWELVES[1]), WRONG_REPLICAS):
            freedom = Freedom(state)
            calls = [
                (freedom.relation,), (freedom.may_say, 1, 2), (freedom.may_dissent, 1, 2), (freedom.fixed_pairs,),
                (freedom.span, 1), (freedom.placed,), (freedom.list_count,), (freedom.can_hold, [1, 2, 3]),
                (freedom.show, 1, 2),
                # Unknown keys, wrong lists and unlike keys come later.
                (freedom.may_say, -1, -2), (freedom.may_dissent, -1, -2), (freedom.show, -1, -2), (freedom.span, -1),
                (freedom.can_hold, [1, 1]), (freedom.can_hold, [55]),
            ]
            for action, *arguments in calls:
                self.assert_raises(UnknownReplica, {"replica": replica}, action, replica, *arguments)

    def test_unknown_keys(self):
        freedom = Freedom(CIRCLE)
        for replica in range(3):
            for action in (freedom.may_say, freedom.may_dissent, freedom.show):
                wrong = [(9, 1, 9), (1, 9, 9), (9, 8, 9), (8, 9, 8), (9, 9, 9), (-1, 3, -1), (3, 10000, 10000)]
                for x, y, key in wrong:
                    self.assert_raises(UnknownKey, {"key": key}, action, replica, x, y)
            for key in (0, 4, -1, 10000):
                self.assert_raises(UnknownKey, {"key": key}, freedom.span, replica, key)
                self.assert_raises(UnknownKey, {"key": key}, Freedom(EMPTY).span, replica, key)

    def test_wrong_lists(self):
        for replica in range(3):
            for order, place in WRONG_LISTS:
                self.assert_raises(InvalidList, {"place": place}, Freedom(CIRCLE).can_hold, replica, order)
            for order, key in (([], 1), ([1, 2], 3), ([4, 3, 2, 1], 4), ([2, 3, 7], 1)):
                self.assert_raises(UnlikeKeys, {"key": key}, Freedom(CIRCLE).can_hold, replica, order)

    def test_lists_are_copied(self):
        freedom = Freedom(State.same([1, 2, 3]))
        order = [3, 1, 2]
        found = freedom.hold((1, order))
        freedom.can_hold(1, order)
        self.assertEqual(order, [3, 1, 2])
        order.reverse()
        self.assertEqual(found.lists(), [[1, 2, 3], [3, 1, 2], [1, 2, 3]])
        for action in (freedom.placed, freedom.fixed_pairs):
            action(0).append((8, 8))
            self.assertNotIn((8, 8), action(0))
        freedom.settled().lists()[0].reverse()
        freedom.hold().lists()[0].reverse()
        self.assertEqual((freedom.settled(), freedom.hold()), (State.same([1, 2, 3]), State.same([1, 2, 3])))

    def test_the_whole_class_gives_the_same_answers(self):
        for state in FIVES + TWELVES + [state_of(8, 3)]:
            other = Freedom(walked(state, 30, 4))
            for replica in range(3):
                self.assertEqual(other.relation(replica), Freedom(state).relation(replica))
                self.assertEqual(other.placed(replica), Freedom(state).placed(replica))
            self.assertEqual(other.settled(), Freedom(state).settled())
            self.assertTrue(Freedom(state).can_hold(0, walked(state, 50, 9).list_of(0)))

    def test_many_keys_and_one_wrong_word(self):
        order = shuffled(range(12), 8)
        state = State.same(order[:9]) + State([order[9], order[10], order[11]], [order[10], order[11], order[9]],
                                              [order[11], order[9], order[10]])
        for replica in range(3):
            self.assertIs(Freedom(state).can_hold(replica, state.list_of(replica)), True)
            self.assertIs(Freedom(state).can_hold(replica, state.list_of((replica + 1) % 3)), False)


if __name__ == "__main__":
    unittest.main()
