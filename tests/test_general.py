"""Point 3: copies of lists, arguments that stay as they were, comparisons that raise no error."""

import copy
import unittest

from quorumdrift.audits import Audit, extra_swaps, missing_swaps
from quorumdrift.cachesets import CacheSet
from quorumdrift.certificates import DealtOtherwise, NotAllowed, ReadOtherwise
from quorumdrift.clusters import Cluster
from quorumdrift.dealings import build, class_at, class_rank, each_home
from quorumdrift.deeds import parse_deeds
from quorumdrift.dependencysets import DependencySet
from quorumdrift.dissents import dealing, dissenter, dissents
from quorumdrift.distances import best_run, can_take, least_cost, passing, straight_run, useful_swaps
from quorumdrift.forced import closed_home, forced_dissents, voluntary_dissents, word_relation
from quorumdrift.freedom import Freedom
from quorumdrift.lists import check_list, differing_pairs, straight_swaps, swap_at
from quorumdrift.members import class_size, each_member
from quorumdrift.orderlists import OrderList
from quorumdrift.paths import expand_change, settle_path, trio_path
from quorumdrift.policies import regions, resolve, violations
from quorumdrift.moves import apply_move, can_move, can_rewrite, expand_move, expand_rewrite, rewrite
from quorumdrift.reach import check_route, explain_reach, reaches, route
from quorumdrift.readings import Reading, read
from quorumdrift.rebuilding import LostReplica
from quorumdrift.relations import Relation
from quorumdrift.reports import report
from quorumdrift.resizing import cycles_with, insert_key, nest, parts, project_run, relabel, rotate
from quorumdrift.runs import Run, each_state, first_fault, play, swapped_pairs
from quorumdrift.settling import homeward, is_settled, settle, settle_length, settle_run
from quorumdrift.shardmaps import ShardMap
from quorumdrift.states import State
from quorumdrift.swaps import apply_swap, barred_by, is_silent, silent_swaps, swap_pair
from quorumdrift.threeway import ThreeWay
from quorumdrift.tierlists import TierList
from quorumdrift.trios import Trio
from quorumdrift.views import as_trio, loosen, view_path
from quorumdrift.widesets import WideSet
from tests.helpers import DriftCase

CHAIN = ([3, 1, 2], [(3, 1), (1, 2)])
CIRCLE = ([3, 1, 2], [(3, 1), (1, 2), (2, 3)])
# Its first replica has a forced dissent and, with 5 and 6 turned, a voluntary one.
LISTS = [[2, 4, 3, 1, 6, 5], [3, 1, 2, 4, 5, 6], [1, 4, 3, 2, 5, 6]]


def spoil(result):
    """Change a returned list and the lists in it, also those in its tuples, in every way that could show."""
    for part in result:
        if isinstance(part, (list, tuple)):
            spoil(part)
    if isinstance(result, list):
        result.reverse()
        result.append(88)


class HandedInTest(DriftCase):
    def test_a_relation_copies_its_lists(self):
        keys, pairs = copy.deepcopy(CHAIN)
        relation = Relation(keys, pairs)
        keys.append(9)
        keys[0] = 8
        pairs.append((2, 3))
        pairs[0] = (2, 2)
        self.assertEqual(relation, Relation(*CHAIN))
        self.assertEqual(relation.path(3, 2), [3, 1, 2])
        self.assertTrue(relation.keeps([3, 1, 2]))
        self.assertEqual((-relation).closed(), (-Relation(*CHAIN)).closed())
        self.assertEqual((relation + relation).closed(), Relation(*CHAIN).closed())

    def test_a_reading_copies_its_lists(self):
        keys, pairs = copy.deepcopy(CIRCLE)
        reading = Reading(keys, pairs)
        keys.clear()
        pairs.clear()
        self.assertEqual(reading, Reading(*CIRCLE))
        self.assertEqual(reading.cycles(), [(1, 2, 3)])

    def test_a_state_copies_its_lists(self):
        for make in (State, State.of):
            lists = [[1, 2], [2, 1], [1, 2]]
            state = make(*lists)
            for order in lists:
                order.reverse()
                order.append(3)
            self.assertEqual(state.lists(), [[1, 2], [2, 1], [1, 2]])

    def test_the_three_equal_lists_are_three(self):
        order = [1, 2]
        state = State.same(order)
        order.append(3)
        self.assertEqual(state.lists(), [[1, 2]] * 3)
        lists = state.lists()
        lists[0].append(4)
        self.assertEqual(lists, [[1, 2, 4], [1, 2], [1, 2]])

    def test_with_list_copies_the_list(self):
        order = [2, 1]
        state = State.same([1, 2]).with_list(1, order)
        order.reverse()
        self.assertEqual(state.lists(), [[1, 2], [2, 1], [1, 2]])

    def test_a_run_copies_its_list(self):
        swaps = [(0, 0), (1, 1)]
        runs = [Run(swaps), Run.of(*swaps), Run(swaps) + Run([]), Run(swaps) * 1, -(-Run(swaps))]
        swaps.reverse()
        swaps.append((2, 2))
        for run in runs:
            self.assertEqual((run.steps(), len(run), str(run)), ([(0, 0), (1, 1)], 2, "0.0 1.1"))

    def test_functions_of_a_state_leave_it_as_it_was(self):
        state = State(*LISTS)
        order, replicas, picks = [2, 4, 3, 1, 5, 6], [0, 0], [1]
        run = Run([(0, 4), (1, 4), (1, 4)])
        other = State(LISTS[0][:4] + [5, 6], *LISTS[1:])
        actions = [dealing, silent_swaps, homeward, is_settled, settle_run, settle, settle_length, closed_home]
        calls = [lambda action=action: action(state) for action in actions]
        for action in (dissents, word_relation, forced_dissents, voluntary_dissents):
            calls.append(lambda action=action: action(state, 0))
        for action in (swap_pair, is_silent, barred_by, apply_swap):
            calls.append(lambda action=action: action(state, (0, 4)))
        for action in (play, first_fault, swapped_pairs):
            calls.append(lambda action=action: action(state, run))
        for action in (expand_move, apply_move, can_move):
            calls.append(lambda action=action: action(state, (0, 4, 5, 6)))
        for action in (expand_rewrite, rewrite, can_rewrite):
            calls.append(lambda action=action: action(state, 0, order))
        for action in (reaches, explain_reach, route, passing, useful_swaps, straight_run, best_run, least_cost):
            calls.append(lambda action=action: action(state, other))
        calls.append(lambda: check_route(state, other, run, movers=replicas))
        calls.append(lambda: can_take(state, other, 4))
        calls.append(lambda: NotAllowed(1, (1, 2)).holds(state, other, movers=replicas))
        calls.append(lambda: [class_size(state, limit=10 ** 6), class_rank(state), next(each_member(state))])
        calls.append(lambda: [Freedom(state).hold((0, order)), Freedom(state).show(1, 6, 5)])
        for action in (extra_swaps, missing_swaps):
            calls.append(lambda action=action: action(state, other, run))
        calls.append(lambda: [Audit(state, other).possibly(0), Audit(state, other).can_take(3)])
        calls.append(lambda: [report(state), parts(state), rotate(state, 2), cycles_with(state, 4)])
        calls.append(lambda: [project_run(state, run, 5), insert_key(state, 9, (0, 1, 6)), nest(state, 1, State.same([8]))])
        calls.append(lambda: Cluster(state, movers=replicas).play_lines("settle\nadd 9 0 0 0\ndrop 1"))
        calls.append(lambda: Cluster(state, movers=replicas).do_rewrite(0, order))
        calls.append(lambda: dissenter(state, 1, 2))
        calls.append(lambda: list(each_state(state, run)))
        calls.append(lambda: settle_run(state, replicas=replicas, picks=picks))
        for call in calls:
            call()
            self.assertEqual(state.lists(), LISTS)
            self.assertEqual(run.steps(), [(0, 4), (1, 4), (1, 4)])
            self.assertEqual((order, replicas, picks), ([2, 4, 3, 1, 5, 6], [0, 0], [1]))

    def test_arguments_stay_as_they_were(self):
        first, second = [4, 2, 3, 1], [1, 2, 3, 4]
        pairs = [(4, 2), (4, 2), (2, 1)]
        tournament = [(4, 3), (3, 2), (2, 1), (4, 2), (1, 4), (3, 1)]
        relation, reading = Relation(first, pairs), Reading(first, tournament)
        state = State(first, second, first)
        check_list(first)
        swap_at(first, 1)
        differing_pairs(first, second)
        straight_swaps(first, second)
        for action in (relation.keeps, relation.rank, reading.accepts):
            action(first)
        State.of(first, second, first)
        State.same(first)
        state.with_list(0, second)
        read(state)
        self.assertEqual((first, second), ([4, 2, 3, 1], [1, 2, 3, 4]))
        self.assertEqual(pairs, [(4, 2), (4, 2), (2, 1)])
        self.assertEqual(tournament, [(4, 3), (3, 2), (2, 1), (4, 2), (1, 4), (3, 1)])
        self.assertEqual(state.lists(), [first, second, first])


class HandedOutTest(DriftCase):
    def check(self, make, questions):
        """Each answer can be changed, and each question then has the same answers as before."""
        thing = make()
        expected = [question(make()) for question in questions]
        for question in questions:
            spoil(question(thing))
            self.assertEqual([ask(thing) for ask in questions], expected)

    def test_relations(self):
        self.check(lambda: Relation(*CHAIN), [
            Relation.all_keys, Relation.closed, Relation.least_order,
            lambda relation: relation.path(3, 2),
            lambda relation: relation.order_at(0),
            lambda relation: list(relation.each_order()),
        ])
        self.check(lambda: Relation(*CIRCLE), [
            Relation.all_keys, Relation.closed, Relation.cycle,
            lambda relation: relation.path(3, 3),
        ])

    def test_states(self):
        self.check(lambda: State([1, 2, 3], [2, 3, 1], [3, 1, 2]), [
            State.lists, State.all_keys,
            lambda state: state.list_of(0),
            lambda state: state.list_of(2),
            lambda state: (-state).lists(),
            lambda state: (state - 2).lists(),
            lambda state: (state + State([], [], [])).lists(),
        ])

    def test_readings(self):
        questions = [
            Reading.all_keys, Reading.pairs, Reading.cycles, Reading.pinned, Reading.free, Reading.components,
            lambda reading: list(reading.each_path()),
        ]
        self.check(lambda: Reading(*CIRCLE), questions)
        self.check(lambda: Reading([1, 2], [(2, 1)]), questions + [Reading.order])

    def test_runs(self):
        self.check(lambda: Run([(0, 1), (2, 0), (0, 0)]), [
            Run.steps,
            lambda run: run.only(0).steps(),
            lambda run: (-run).steps(),
            lambda run: (run + run).steps(),
            lambda run: (run * 1).steps(),
        ])

    def test_functions_of_states(self):
        self.check(lambda: State(*LISTS), [
            dealing, silent_swaps, homeward,
            lambda state: dissents(state, 0),
            lambda state: forced_dissents(state, 0),
            lambda state: voluntary_dissents(state, 0),
            lambda state: word_relation(state, 0).closed(),
            lambda state: closed_home(state).lists(),
            lambda state: settle(state).lists(),
            lambda state: settle_run(state).steps(),
            lambda state: swapped_pairs(state, Run.of((0, 4))),
            lambda state: expand_move(state, (0, 4, 5, 6)).steps(),
            lambda state: rewrite(state, 0, LISTS[0]).lists(),
            lambda state: next(each_state(state, Run([]))).lists(),
            lambda state: route(state, state).steps(),
            lambda state: passing(state, settle(state)),
            lambda state: useful_swaps(state, settle(state)),
            lambda state: best_run(state, settle(state)).steps(),
            lambda state: next(each_member(state)).lists(),
            lambda state: next(each_home(read(state))).lists(),
            lambda state: class_at(read(state), 0).lists(),
            lambda state: build(read(state), dealing(state)).lists(),
        ])
        self.assertEqual(LISTS[0], [2, 4, 3, 1, 6, 5])

    def test_freedoms(self):
        self.check(lambda: Freedom(State(*LISTS)), [
            lambda freedom: freedom.settled().lists(),
            lambda freedom: freedom.relation(0).closed(),
            lambda freedom: freedom.fixed_pairs(1),
            lambda freedom: freedom.placed(2),
            lambda freedom: freedom.hold((0, [2, 4, 3, 1, 6, 5])).lists(),
            lambda freedom: freedom.show(0, 6, 5).steps(),
        ])

    def test_a_freedom_copies_the_lists_of_claims(self):
        order = [2, 4, 3, 1, 6, 5]
        held = Freedom(State(*LISTS)).hold((0, order))
        order.reverse()
        self.assertEqual(held.lists()[0], [2, 4, 3, 1, 6, 5])

    def test_a_dealing_is_copied(self):
        shares = [(1, 2, 1), (2, 3, 2), (3, 1, 0)]
        home = build(Reading(*CIRCLE), shares)
        shares.clear()
        self.assertEqual(home.lists(), [[1, 2, 3], [2, 3, 1], [3, 1, 2]])

    def test_lost_replicas(self):
        self.check(lambda: LostReplica([1, 2, 3], [2, 3, 1], Reading(*CIRCLE)), [
            LostReplica.least, LostReplica.settled_list,
            lambda lost: lost.relation().closed(),
            lambda lost: lost.state().lists(),
        ])

    def test_three_way_merges(self):
        self.check(lambda: ThreeWay([1, 2, 3, 4, 5], [2, 1, 3, 4, 5], [1, 3, 2, 4, 5]), [
            ThreeWay.conflicts, ThreeWay.silent_edits, regions, resolve,
            lambda three: three.side("old"),
            lambda three: three.side("mine"),
            lambda three: three.side("yours"),
            lambda three: three.state().lists(),
            lambda three: three.merged().pairs(),
            lambda three: three.settled().side("old"),
            lambda three: three.flipped().side("mine"),
            lambda three: three.edits_to(three.settled()),
            lambda three: violations(three, [5, 4, 3, 2, 1]),
        ])
        self.check(lambda: ThreeWay([1, 2], [1, 2], [2, 1]), [ThreeWay.order])

    def test_contents(self):
        makes = [lambda: OrderList([3, 1, 2]), lambda: ShardMap([[3, 1], [2]])]
        for make in makes:
            self.check(make, [
                lambda contents: contents.all_keys(),
                lambda contents: contents.places(),
                lambda contents: contents.words(),
                lambda contents: contents.changes()[0].words(),
                lambda contents: contents.conflicts([(1, 2), (2, 3)]),
                lambda contents: contents.like([(1, 2)]).words(),
            ])
            self.assertEqual(len(make().changes()), len(make().changes()))
        self.check(makes[0], [OrderList.order, lambda contents: contents.like([]).order()])
        self.check(makes[1], [ShardMap.groups, lambda contents: contents.like([]).groups()])

    def test_contents_of_the_three_other_kinds(self):
        shared = [
            lambda contents: contents.all_keys(),
            lambda contents: contents.places(),
            lambda contents: contents.words(),
            lambda contents: contents.changes()[0].words(),
            lambda contents: contents.conflicts([(1, 2), (2, 3), (1,), (2,), (3,)]),
            lambda contents: contents.like([]).words(),
        ]
        self.check(lambda: DependencySet([1, 2, 3], [(3, 1)]), shared + [DependencySet.pairs])
        self.check(lambda: CacheSet([1, 2, 3], [3, 1], [(3, 2, 1)]), shared + [CacheSet.held, CacheSet.book])
        self.check(lambda: TierList([[3, 1], [2]]), shared + [TierList.ranks])

    def test_trios(self):
        questions = [
            Trio.reading, Trio.conflicts, Trio.pinned, Trio.dealing, Trio.silent_changes, Trio.homeward, settle_path,
            lambda trio: trio.contents_of(0).words(),
            lambda trio: trio.closed_home().contents_of(1).words(),
            lambda trio: trio_path(trio, trio),
            lambda trio: expand_change(trio, 0, trio.contents_of(0)),
        ]
        orders = ([1, 2, 3, 5, 4], [2, 3, 1, 4, 5], [3, 1, 2, 4, 5])
        self.check(lambda: Trio(*[OrderList(order) for order in orders]), questions)
        self.check(lambda: Trio(*[TierList([order[:2], order[2:]]) for order in orders]), questions)
        self.check(lambda: as_trio(State(*orders), "tiers"), questions + [lambda trio: loosen(trio).reading()])
        self.check(lambda: State(*orders), [lambda state: view_path(state, Run.of((0, 3)), "tiers")])

    def test_resized_states(self):
        names = {1: 3, 2: 1, 3: 2, 4: 5, 5: 4, 6: 6}
        self.check(lambda: State(*LISTS), [
            parts,
            lambda state: parts(state)[0].lists(),
            lambda state: cycles_with(state, 4),
            lambda state: project_run(state, Run.of((0, 4)), 1).steps(),
            lambda state: insert_key(state, 9, (0, 6, 1)).lists(),
            lambda state: relabel(state, names).lists(),
            lambda state: rotate(state, 1).lists(),
            lambda state: nest(state, 1, State.same([8, 7])).lists(),
            lambda state: extra_swaps(state, state, Run.of((0, 4))),
            lambda state: missing_swaps(state, settle(state), settle_run(state) + Run.of((2, 4))),
        ])
        self.assertEqual(names, {1: 3, 2: 1, 3: 2, 4: 5, 5: 4, 6: 6})

    def test_wide_sets(self):
        self.check(lambda: WideSet([1, 2, 3], [1, 3, 2], [1, 2, 3], [2, 1, 3]), [
            WideSet.lists, WideSet.all_keys, WideSet.order, WideSet.silent_swaps,
            lambda wide: wide.list_of(1),
            lambda wide: wide.home_run().steps(),
            lambda wide: wide.played(Run.of((1, 1))).lists(),
            lambda wide: wide.route_to(wide).steps(),
        ])

    def test_audits(self):
        self.check(lambda: Audit(State(*LISTS), settle(State(*LISTS))), [
            Audit.moved,
            lambda audit: audit.odd_pairs(0),
            lambda audit: audit.possibly(0),
            lambda audit: audit.never(0),
        ])

    def test_clusters_and_deeds(self):
        def cluster():
            made = Cluster.replay(State(*LISTS), "settle\nrewrite 1 3 1 2 4 6 5\nadd 9 0 0 0")
            made.save("here")
            return made

        self.check(cluster, [
            Cluster.history,
            lambda made: made.state().lists(),
            lambda made: made.saved("here").lists(),
            lambda made: made.audit("here").moved(),
            lambda made: made.trial("drop 9").lists(),
        ])
        self.check(lambda: "settle\nrewrite 1 3 1 2", [parse_deeds])

    def test_yielded_states_do_not_hang_together(self):
        state = State(*LISTS)
        run = Run.of((0, 4), (1, 4))
        expected = [now.lists() for now in each_state(state, run)]
        found = []
        for now in each_state(state, run):
            found.append(now.lists())
            spoil(now.lists())
        self.assertEqual(found, expected)

    def test_results_of_functions_on_lists_are_new(self):
        order = [1, 2, 3]
        spoil(swap_at(order, 0))
        spoil(differing_pairs(order, order))
        spoil(straight_swaps(order, order))
        self.assertEqual(order, [1, 2, 3])

    def test_kinds_of_results(self):
        relation, reading = Relation(*CHAIN), Reading(*CIRCLE)
        for result in (relation.closed(), relation.path(3, 2), relation.order_at(0), reading.pairs(),
                       reading.cycles(), reading.components(), reading.components()[0],
                       swap_at([1, 2], 0), differing_pairs([1, 2], [2, 1]), State.same([1]).lists()):
            self.assertIs(type(result), list)
        for result in (relation.closed()[0], relation.span(1), reading.pairs()[0], reading.cycles()[0],
                       reading.pinned()[0], differing_pairs([1, 2], [2, 1])[0]):
            self.assertIs(type(result), tuple)


class ComparisonTest(DriftCase):
    def test_objects_of_unlike_kinds_are_unequal(self):
        things = [
            Relation([], []), Reading([], []), State([], [], []), Run([]), [], None, "", 0, (1, 2),
            ReadOtherwise((1, 2)), DealtOtherwise((1, 2)), NotAllowed(0, (1, 2)),
            ThreeWay([], [], []), OrderList([]), ShardMap([]), DependencySet([], []), CacheSet([], [], []), TierList([]),
            Trio(*[OrderList([])] * 3), Trio(*[TierList([])] * 3), WideSet([], [], [], []),
        ]
        for place, thing in enumerate(things):
            for other_place, other in enumerate(things):
                self.assertIs(thing == other, place == other_place)
                self.assertIs(thing != other, place != other_place)


if __name__ == "__main__":
    unittest.main()
