"""Point 18: the reasons why no run of silent swaps leads from one state to another."""

import unittest
from itertools import permutations, product

from quorumdrift.certificates import Certificate, DealtOtherwise, NotAllowed, ReadOtherwise
from quorumdrift.states import State
from tests.helpers import DriftCase
from tests.oracles import CIRCLE, EMPTY, FIVES, FOURS, SINGLE, TRIPLES, TWELVES, WRONG_REPLICAS
from tests.oracles import circles, dissenters, read_before, subsets_of_replicas

PAIRS_OF_STATES = [
    (start, goal)
    for states, step in ((TRIPLES, 17), (FOURS, 7), (FIVES, 9), (TWELVES, 2))
    for start in states[::step] for goal in states[::max(1, step - 6)]
]
# Two states that are read in the circle 1, 2, 3, and are dealt otherwise.
TURNED = State([2, 3, 1], [1, 2, 3], [3, 1, 2])


def shown(start, goal):
    """Some keys of the two states: not all of many, so that a test stays quick."""
    return sorted(set(start.all_keys()) | set(goal.all_keys()))[:6]


class AttributesTest(DriftCase):
    def test_base_classes(self):
        self.assertEqual(Certificate.__bases__, (object,))
        for kind in (ReadOtherwise, DealtOtherwise, NotAllowed):
            self.assertEqual(kind.__bases__, (Certificate,))

    def test_attributes(self):
        self.assertEqual(vars(ReadOtherwise((3, 1))), {"pair": (3, 1)})
        self.assertEqual(vars(DealtOtherwise((3, 1, 2))), {"triple": (3, 1, 2)})
        self.assertEqual(vars(NotAllowed(2, (3, 1))), {"replica": 2, "pair": (3, 1)})

    def test_arguments_by_name(self):
        self.assertEqual(ReadOtherwise(pair=(1, 2)), ReadOtherwise((1, 2)))
        self.assertEqual(DealtOtherwise(triple=(1, 2, 3)), DealtOtherwise((1, 2, 3)))
        self.assertEqual(NotAllowed(replica=1, pair=(1, 2)), NotAllowed(1, (1, 2)))

    def test_constructors_check_nothing(self):
        self.assertEqual(ReadOtherwise((-1, -1)).pair, (-1, -1))
        self.assertEqual(DealtOtherwise((-1, 10000, -1)).triple, (-1, 10000, -1))
        self.assertEqual(vars(NotAllowed(-5, (7, 7))), {"replica": -5, "pair": (7, 7)})

    def test_texts(self):
        self.assertEqual(Certificate().text(), "not reachable")
        self.assertEqual(ReadOtherwise((10, 2)).text(), "not reachable: read otherwise at 10 2")
        self.assertEqual(DealtOtherwise((1, 9999, 0)).text(), "not reachable: dealt otherwise in 1 9999 0")
        self.assertEqual(NotAllowed(2, (0, 31)).text(), "not reachable: replica 2 differs at 0 31")

    def test_equal(self):
        reasons = [
            ReadOtherwise((1, 2)), ReadOtherwise((2, 1)), ReadOtherwise((1, 3)),
            DealtOtherwise((1, 2, 3)), DealtOtherwise((2, 3, 1)), DealtOtherwise((1, 2, 4)), DealtOtherwise((1, 2)),
            NotAllowed(0, (1, 2)), NotAllowed(1, (1, 2)), NotAllowed(0, (2, 1)),
        ]
        copies = [
            ReadOtherwise((1, 2)), ReadOtherwise((2, 1)), ReadOtherwise((1, 3)),
            DealtOtherwise((1, 2, 3)), DealtOtherwise((2, 3, 1)), DealtOtherwise((1, 2, 4)), DealtOtherwise((1, 2)),
            NotAllowed(0, (1, 2)), NotAllowed(1, (1, 2)), NotAllowed(0, (2, 1)),
        ]
        for place, reason in enumerate(reasons):
            for other_place, other in enumerate(copies):
                self.assertIs(reason == other, place == other_place)
                self.assertIs(reason != other, place != other_place)
            for other in (Certificate(), (1, 2), (1, 2, 3), None, "", 0, EMPTY):
                self.assertIs(reason == other, False)
                self.assertIs(reason != other, True)


class BaseClassTest(DriftCase):
    def test_it_never_holds(self):
        for start, goal in PAIRS_OF_STATES[::20] + [(EMPTY, EMPTY), (CIRCLE, TURNED), (CIRCLE, EMPTY)]:
            self.assertIs(Certificate().holds(start, goal), False)
            self.assertIs(Certificate().holds(start, goal, movers=[]), False)


class ReadOtherwiseTest(DriftCase):
    def test_against_a_majority(self):
        counts = {True: 0, False: 0}
        for start, goal in PAIRS_OF_STATES:
            for x, y in product(shown(start, goal), repeat=2):
                both = all(key in state for key in (x, y) for state in (start, goal))
                wanted = both and read_before(start, x, y) != read_before(goal, x, y)
                self.assertIs(ReadOtherwise((x, y)).holds(start, goal), wanted)
                self.assertIs(ReadOtherwise((x, y)).holds(start, goal, movers=()), wanted)
                counts[wanted] += 1
        self.assertGreater(min(counts.values()), 500)

    def test_in_both_directions_and_at_equal_keys(self):
        start, goal = State.same([1, 2, 3]), State.same([2, 1, 3])
        for pair, wanted in (((1, 2), True), ((2, 1), True), ((1, 3), False), ((1, 1), False), ((3, 3), False)):
            self.assertIs(ReadOtherwise(pair).holds(start, goal), wanted)
            self.assertIs(ReadOtherwise(pair).holds(goal, start), wanted)

    def test_keys_that_are_not_in_both(self):
        start, goal = State.same([1, 2, 3]), State.same([3, 2, 4])
        for pair in ((1, 2), (2, 1), (4, 2), (2, 4), (1, 4), (8, 9), (-1, 2), (3, 10000)):
            self.assertIs(ReadOtherwise(pair).holds(start, goal), False)
        # Only the named keys are looked at.
        self.assertIs(ReadOtherwise((2, 3)).holds(start, goal), True)


class DealtOtherwiseTest(DriftCase):
    def test_against_dissenters(self):
        counts = {True: 0, False: 0}
        for start, goal in PAIRS_OF_STATES:
            here, there = set(circles(start)), set(circles(goal))
            for triple in permutations(shown(start, goal), 3):
                x, y, z = triple
                wanted = triple in here and triple in there and any(
                    dissenters(start, *pair) != dissenters(goal, *pair) for pair in ((x, y), (y, z), (z, x))
                )
                self.assertIs(DealtOtherwise(triple).holds(start, goal), wanted)
                counts[wanted] += 1
        self.assertGreater(min(counts.values()), 5)

    def test_all_states_of_one_circle(self):
        around = [state for state in TRIPLES if circles(state)]
        self.assertEqual(len(around), 12)
        for start, goal in product(around, repeat=2):
            for triple in permutations((1, 5, 30)):
                wanted = triple in circles(start) and triple in circles(goal) and start != goal
                self.assertIs(DealtOtherwise(triple).holds(start, goal), wanted)

    def test_directions(self):
        for triple in ((1, 2, 3), (2, 3, 1), (3, 1, 2)):
            self.assertIs(DealtOtherwise(triple).holds(CIRCLE, TURNED), True)
            self.assertIs(DealtOtherwise(triple).holds(CIRCLE, TURNED, movers=[]), True)
            self.assertIs(DealtOtherwise(triple).holds(CIRCLE, CIRCLE), False)
        for triple in ((3, 2, 1), (2, 1, 3), (1, 3, 2), (1, 1, 1), (1, 2, 1), (1, 2, 2), (1, 1, 2)):
            self.assertIs(DealtOtherwise(triple).holds(CIRCLE, TURNED), False)

    def test_a_circle_of_one_of_the_states_only(self):
        for other in (State.same([1, 2, 3]), -CIRCLE):
            for triple in permutations((1, 2, 3)):
                self.assertIs(DealtOtherwise(triple).holds(CIRCLE, other), False)
                self.assertIs(DealtOtherwise(triple).holds(other, CIRCLE), False)

    def test_keys_that_are_not_in_both(self):
        wide = CIRCLE + State.same([4])
        for triple in ((1, 2, 4), (4, 1, 2), (8, 9, 7), (1, 2, -1)):
            self.assertIs(DealtOtherwise(triple).holds(wide, TURNED), False)
            self.assertIs(DealtOtherwise(triple).holds(TURNED, wide), False)
        self.assertIs(DealtOtherwise((1, 2, 3)).holds(wide, TURNED), True)
        self.assertIs(DealtOtherwise((1, 2, 3)).holds(CIRCLE, EMPTY), False)


class NotAllowedTest(DriftCase):
    def test_against_the_lists(self):
        counts = {True: 0, False: 0}
        for start, goal in PAIRS_OF_STATES[::3]:
            for replica in range(3):
                here, there = start.list_of(replica), goal.list_of(replica)
                for x, y in product(shown(start, goal)[:4], repeat=2):
                    both = all(key in order for key in (x, y) for order in (here, there))
                    apart = both and (here.index(x) < here.index(y)) != (there.index(x) < there.index(y))
                    for movers in subsets_of_replicas():
                        wanted = apart and replica not in movers
                        self.assertIs(NotAllowed(replica, (x, y)).holds(start, goal, movers=movers), wanted)
                        counts[wanted] += 1
        self.assertGreater(min(counts.values()), 500)

    def test_every_replica_is_a_mover_if_none_are_named(self):
        for replica in range(3):
            self.assertIs(NotAllowed(replica, (1, 2)).holds(CIRCLE, -CIRCLE), False)
            self.assertIs(NotAllowed(replica, (1, 2)).holds(CIRCLE, -CIRCLE, movers=()), True)

    def test_replicas_that_are_none(self):
        for replica in WRONG_REPLICAS:
            for movers in ((), (0, 1), [replica]):
                self.assertIs(NotAllowed(replica, (1, 2)).holds(CIRCLE, -CIRCLE, movers=movers), False)

    def test_wrong_movers_have_no_effect(self):
        for movers in ([7, -1], (3, 1, 1), [99, 2]):
            self.assertIs(NotAllowed(0, (1, 2)).holds(CIRCLE, -CIRCLE, movers=movers), True)
            self.assertIs(NotAllowed(0, (1, 2)).holds(CIRCLE, -CIRCLE, movers=[*movers, 0, 0]), False)
            self.assertIs(ReadOtherwise((1, 2)).holds(CIRCLE, -CIRCLE, movers=movers), True)
            self.assertIs(DealtOtherwise((1, 2, 3)).holds(CIRCLE, TURNED, movers=movers), True)

    def test_keys_that_are_not_in_both(self):
        start, goal = State.same([1, 2, 3]), State.same([3, 2, 4])
        for pair in ((1, 2), (2, 1), (4, 2), (2, 4), (1, 4), (8, 9), (-1, 2), (2, 2), (3, 3)):
            self.assertIs(NotAllowed(1, pair).holds(start, goal, movers=()), False)
        for pair in ((2, 3), (3, 2)):
            self.assertIs(NotAllowed(1, pair).holds(start, goal, movers=()), True)

    def test_states_without_keys(self):
        for reason in (ReadOtherwise((1, 2)), DealtOtherwise((1, 2, 3)), NotAllowed(0, (1, 2))):
            for start, goal in product((EMPTY, SINGLE, CIRCLE), (EMPTY, SINGLE)):
                self.assertIs(reason.holds(start, goal, movers=()), False)
                self.assertIs(reason.holds(goal, start, movers=()), False)


class ArgumentsTest(DriftCase):
    def test_movers_by_keyword_only(self):
        for reason in (Certificate(), ReadOtherwise((1, 2)), DealtOtherwise((1, 2, 3)), NotAllowed(0, (1, 2))):
            self.assertRaises(TypeError, reason.holds, CIRCLE, TURNED, (0, 1))

    def test_arguments_stay_as_they_were(self):
        movers = [2, 2, 1]
        lists = (CIRCLE.lists(), TURNED.lists())
        for reason in (Certificate(), ReadOtherwise((1, 2)), DealtOtherwise((1, 2, 3)), NotAllowed(0, (1, 2))):
            reason.holds(CIRCLE, TURNED, movers=movers)
            self.assertEqual((movers, CIRCLE.lists(), TURNED.lists()), ([2, 2, 1], *lists))


if __name__ == "__main__":
    unittest.main()
