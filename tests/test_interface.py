"""The names of the interface: where they are defined, and with which arguments."""

import inspect
import unittest

from quorumdrift import audits, cachesets, certificates, clusters, contents, dealings, deeds, dependencysets, dissents
from quorumdrift import distances, errors, forced, freedom, lists, members, moves, orderlists, paths, policies, reach
from quorumdrift import readings, rebuilding, relations, reports, resizing, runs, settling, shardmaps, states, swaps
from quorumdrift import threeway, tierlists, trios, views, widesets

FUNCTIONS = {
    lists: {
        "check_list": ["order"],
        "swap_at": ["order", "index"],
        "differing_pairs": ["first", "second"],
        "straight_swaps": ["first", "second"],
    },
    readings: {"read": ["state"]},
    dissents: {"dissenter": ["state", "x", "y"], "dissents": ["state", "replica"], "dealing": ["state"]},
    swaps: {
        "swap_pair": ["state", "swap"],
        "is_silent": ["state", "swap"],
        "barred_by": ["state", "swap"],
        "apply_swap": ["state", "swap"],
        "silent_swaps": ["state"],
    },
    runs: {
        "play": ["state", "run"],
        "first_fault": ["state", "run"],
        "each_state": ["state", "run"],
        "swapped_pairs": ["state", "run"],
    },
    moves: {
        "expand_move": ["state", "move"],
        "apply_move": ["state", "move"],
        "can_move": ["state", "move"],
        "expand_rewrite": ["state", "replica", "order"],
        "rewrite": ["state", "replica", "order"],
        "can_rewrite": ["state", "replica", "order"],
    },
    settling: {
        "homeward": ["state"],
        "is_settled": ["state"],
        "settle_run": ["state", "replicas", "picks"],
        "settle": ["state", "replicas"],
        "settle_length": ["state", "replicas"],
    },
    forced: {
        "word_relation": ["state", "replica"],
        "closed_home": ["state"],
        "forced_dissents": ["state", "replica"],
        "voluntary_dissents": ["state", "replica"],
    },
    reach: {
        "reaches": ["start", "goal", "movers"],
        "explain_reach": ["start", "goal", "movers"],
        "route": ["start", "goal", "movers"],
        "check_route": ["start", "goal", "run", "movers"],
    },
    distances: {
        "word_distance": ["start", "goal"],
        "passing": ["start", "goal"],
        "useful_swaps": ["start", "goal"],
        "straight_run": ["start", "goal"],
        "best_run": ["start", "goal"],
        "bounds": ["start", "goal"],
        "is_shortest": ["start", "goal", "run"],
        "can_take": ["start", "goal", "count"],
        "least_cost": ["start", "goal", "prices"],
    },
    members: {"class_size": ["state", "limit"], "each_member": ["state"]},
    dealings: {
        "each_home": ["reading"],
        "class_count": ["reading"],
        "class_rank": ["state"],
        "class_at": ["reading", "rank"],
        "census": ["size"],
        "build": ["reading", "shares"],
    },
    policies: {"regions": ["three"], "resolve": ["three", "policy"], "violations": ["three", "order"]},
    paths: {
        "settle_path": ["trio", "replicas", "picks"],
        "play_path": ["trio", "path"],
        "trio_reaches": ["start", "goal", "movers"],
        "trio_explain": ["start", "goal", "movers"],
        "trio_path": ["start", "goal", "movers"],
        "expand_change": ["trio", "replica", "contents"],
    },
    views: {
        "as_trio": ["state", "kind"],
        "view_path": ["state", "run", "kind"],
        "kinds_reach": ["start", "goal"],
        "loosen": ["trio"],
    },
    resizing: {
        "project_run": ["state", "run", "key"],
        "insert_key": ["state", "key", "positions"],
        "cycles_with": ["state", "key"],
        "relabel": ["state", "names"],
        "rotate": ["state", "by"],
        "nest": ["outer", "key", "inner"],
        "parts": ["state"],
    },
    deeds: {"deed_line": ["deed"], "parse_deeds": ["text"]},
    audits: {"extra_swaps": ["start", "goal", "run"], "missing_swaps": ["start", "goal", "run"]},
    reports: {"report": ["state"]},
}

# The arguments that are passed by keyword only, with their default values.
KEYWORDS = {
    settling.settle_run: {"replicas": (0, 1, 2), "picks": ()},
    settling.settle: {"replicas": (0, 1, 2)},
    settling.settle_length: {"replicas": (0, 1, 2)},
    reach.reaches: {"movers": (0, 1, 2)},
    reach.explain_reach: {"movers": (0, 1, 2)},
    reach.route: {"movers": (0, 1, 2)},
    reach.check_route: {"movers": (0, 1, 2)},
    distances.least_cost: {"prices": (1, 1, 1)},
    members.class_size: {"limit": 10000},
    policies.resolve: {"policy": None},
    paths.settle_path: {"replicas": (0, 1, 2), "picks": ()},
    paths.trio_reaches: {"movers": (0, 1, 2)},
    paths.trio_explain: {"movers": (0, 1, 2)},
    paths.trio_path: {"movers": (0, 1, 2)},
    clusters.Cluster.__init__: {"movers": (0, 1, 2), "capacity": 100},
    clusters.Cluster.replay: {"movers": (0, 1, 2), "capacity": 100},
}

# What each kind of contents has of its own, beside its constructor.
OF_CONTENTS = {
    "all_keys": [], "label": [], "places": [], "words": [], "like": ["words"], "changes": [],
    "conflicts": ["words"], "forced": ["place", "pinned"], "__eq__": None, "__len__": None, "__contains__": None,
}

CLASSES = {
    relations.Relation: {
        "__init__": ["all_keys", "pairs"],
        "all_keys": [], "closed": [], "implies": ["x", "y"], "path": ["x", "y"], "cycle": [],
        "keeps": ["order"], "order_count": [], "each_order": [], "least_order": [],
        "rank": ["order"], "order_at": ["rank"], "span": ["key"],
        "__add__": None, "__neg__": None, "__contains__": None, "__len__": None, "__eq__": None,
    },
    states.State: {
        "__init__": ["first", "second", "third"],
        "of": ["orders"], "same": ["order"], "read": ["text"],
        "list_of": ["replica"], "lists": [], "all_keys": [], "says": ["replica", "x", "y"],
        "position": ["replica", "key"], "with_list": ["replica", "order"],
        "__eq__": None, "__len__": None, "__contains__": None, "__add__": None, "__sub__": None,
        "__neg__": None, "__str__": None,
    },
    readings.Reading: {
        "__init__": ["all_keys", "pairs"],
        "all_keys": [], "before": ["x", "y"], "pairs": [], "order": [], "cycles": [], "pinned": [], "free": [],
        "components": [], "accepts": ["order"], "each_path": [],
        "__eq__": None, "__len__": None, "__contains__": None, "__neg__": None, "__sub__": None,
    },
    runs.Run: {
        "__init__": ["swaps"],
        "of": ["swaps"], "read": ["text"], "steps": [], "shares": [], "only": ["replica"],
        "__eq__": None, "__len__": None, "__add__": None, "__neg__": None, "__mul__": None, "__str__": None,
    },
    certificates.Certificate: {"holds": ["start", "goal", "movers"], "text": []},
    certificates.ReadOtherwise: {
        "__init__": ["pair"], "holds": ["start", "goal", "movers"], "text": [], "__eq__": None,
    },
    certificates.DealtOtherwise: {
        "__init__": ["triple"], "holds": ["start", "goal", "movers"], "text": [], "__eq__": None,
    },
    certificates.NotAllowed: {
        "__init__": ["replica", "pair"], "holds": ["start", "goal", "movers"], "text": [], "__eq__": None,
    },
    freedom.Freedom: {
        "__init__": ["state"],
        "settled": [], "relation": ["replica"], "may_say": ["replica", "x", "y"],
        "may_dissent": ["replica", "x", "y"], "fixed_pairs": ["replica"], "span": ["replica", "key"],
        "placed": ["replica"], "list_count": ["replica"], "can_hold": ["replica", "order"],
        "hold": ["claims"], "show": ["replica", "x", "y"],
    },
    rebuilding.LostReplica: {
        "__init__": ["first", "second", "reading"],
        "relation": [], "fault": [], "accepts": ["order"], "order_count": [], "least": [], "settled_list": [],
        "state": [],
    },
    threeway.ThreeWay: {
        "__init__": ["old", "mine", "yours"],
        "side": ["name"], "state": [], "merged": [], "order": [], "changed_by": ["x", "y"], "conflicts": [],
        "silent_edits": [], "edit": ["side", "index"], "settled": [], "same_merge": ["other"],
        "edits_to": ["other"], "flipped": [], "__eq__": None,
    },
    policies.Policy: {"__call__": ["three", "region"], "label": []},
    policies.PreferSide: {"__init__": ["side"], "__call__": ["three", "region"], "label": []},
    policies.Backward: {"__init__": ["inner"], "__call__": ["three", "region"], "label": []},
    contents.Contents: {"__init__": ["all_keys"], "all_keys": [], "label": []},
    orderlists.OrderList: {"__init__": ["order"], "order": [], **OF_CONTENTS},
    shardmaps.ShardMap: {"__init__": ["groups"], "groups": [], **OF_CONTENTS},
    dependencysets.DependencySet: {"__init__": ["all_keys", "pairs"], "pairs": [], **OF_CONTENTS},
    cachesets.CacheSet: {"__init__": ["all_keys", "held", "book"], "held": [], "book": [], **OF_CONTENTS},
    tierlists.TierList: {"__init__": ["ranks"], "ranks": [], **OF_CONTENTS},
    trios.Trio: {
        "__init__": ["first", "second", "third"],
        "contents_of": ["replica"], "label": [], "reading": [], "conflicts": [], "pinned": [],
        "dissenter": ["place"], "dealing": [], "is_silent": ["replica", "contents"],
        "with_contents": ["replica", "contents"], "silent_changes": [], "homeward": [], "closed_home": [],
        "__eq__": None,
    },
    widesets.WideSet: {
        "__init__": ["orders"],
        "list_of": ["replica"], "lists": [], "all_keys": [], "order": [], "dissenter": ["x", "y"], "silent_swaps": [],
        "played": ["run"], "home_run": [], "comes_to": ["other"], "route_to": ["other"], "__eq__": None,
    },
    audits.Audit: {
        "__init__": ["start", "goal"],
        "moved": [], "odd_pairs": ["replica"], "possibly": ["replica"], "never": ["replica"], "shares": [],
        "can_take": ["count"],
    },
    clusters.Cluster: {
        "__init__": ["state", "movers", "capacity"], "replay": ["state", "text", "movers", "capacity"],
        "state": [], "history": [], "journal": [], "movers": [], "change": ["option", "value"],
        "do_swap": ["replica", "index"], "do_move": ["replica", "start", "middle", "end"],
        "do_rewrite": ["replica", "order"], "do_settle": [], "do_become": ["state"],
        "add_key": ["key", "positions"], "drop_key": ["key"], "undo": [], "redo": [],
        "save": ["name"], "saved": ["name"], "restore": ["name"], "audit": ["name"],
        "play_lines": ["text"], "trial": ["text"],
    },
}


def by_keyword_only(function):
    """The arguments of a function that are passed by keyword only, with their default values."""
    parameters = inspect.signature(function).parameters.values()
    return {one.name: one.default for one in parameters if one.kind is one.KEYWORD_ONLY}


class InterfaceTest(unittest.TestCase):
    def test_functions(self):
        for module, functions in FUNCTIONS.items():
            for name, arguments in functions.items():
                with self.subTest(name):
                    function = getattr(module, name)
                    self.assertEqual(function.__module__, module.__name__)
                    self.assertEqual(list(inspect.signature(function).parameters), arguments)

    def test_arguments_by_keyword_only(self):
        functions = [getattr(module, name) for module, names in FUNCTIONS.items() for name in names]
        for function in functions:
            with self.subTest(function):
                self.assertEqual(by_keyword_only(function), KEYWORDS.get(function, {}))
        for owner, methods in CLASSES.items():
            for name in methods:
                with self.subTest(owner=owner, name=name):
                    method = getattr(owner, name)
                    wanted = {"movers": (0, 1, 2)} if name == "holds" else KEYWORDS.get(method, {})
                    self.assertEqual(by_keyword_only(method), wanted)

    def test_methods_are_defined_in_their_own_class(self):
        for owner, methods in CLASSES.items():
            for name, arguments in methods.items():
                with self.subTest(owner=owner, name=name):
                    self.assertIn(name, vars(owner))
                    if arguments is not None:
                        found = list(inspect.signature(getattr(owner, name)).parameters)
                        self.assertEqual([one for one in found if one != "self"], arguments)

    def test_classes_are_defined_in_their_own_file(self):
        self.assertEqual(relations.Relation.__module__, "quorumdrift.relations")
        self.assertEqual(states.State.__module__, "quorumdrift.states")
        self.assertEqual(readings.Reading.__module__, "quorumdrift.readings")
        self.assertEqual(runs.Run.__module__, "quorumdrift.runs")
        self.assertEqual(freedom.Freedom.__module__, "quorumdrift.freedom")
        self.assertEqual(rebuilding.LostReplica.__module__, "quorumdrift.rebuilding")
        self.assertEqual(threeway.ThreeWay.__module__, "quorumdrift.threeway")
        self.assertEqual(contents.Contents.__module__, "quorumdrift.contents")
        self.assertEqual(orderlists.OrderList.__module__, "quorumdrift.orderlists")
        self.assertEqual(shardmaps.ShardMap.__module__, "quorumdrift.shardmaps")
        self.assertEqual(dependencysets.DependencySet.__module__, "quorumdrift.dependencysets")
        self.assertEqual(cachesets.CacheSet.__module__, "quorumdrift.cachesets")
        self.assertEqual(tierlists.TierList.__module__, "quorumdrift.tierlists")
        self.assertEqual(trios.Trio.__module__, "quorumdrift.trios")
        self.assertEqual(widesets.WideSet.__module__, "quorumdrift.widesets")
        self.assertEqual(audits.Audit.__module__, "quorumdrift.audits")
        self.assertEqual(clusters.Cluster.__module__, "quorumdrift.clusters")
        for name in ("Policy", "PreferSide", "Backward"):
            self.assertEqual(getattr(policies, name).__module__, "quorumdrift.policies")
        for name in ("Certificate", "ReadOtherwise", "DealtOtherwise", "NotAllowed"):
            self.assertEqual(getattr(certificates, name).__module__, "quorumdrift.certificates")
        for name, value in vars(errors).items():
            if isinstance(value, type):
                self.assertEqual(value.__module__, "quorumdrift.errors", name)

    def test_kinds_of_methods(self):
        self.assertIsInstance(vars(states.State)["of"], classmethod)
        self.assertIsInstance(vars(states.State)["read"], classmethod)
        self.assertIsInstance(vars(states.State)["same"], staticmethod)
        self.assertIsInstance(vars(runs.Run)["of"], classmethod)
        self.assertIsInstance(vars(runs.Run)["read"], classmethod)
        self.assertIsInstance(vars(clusters.Cluster)["replay"], classmethod)
        self.assertIsInstance(vars(clusters.Cluster)["drift"], property)
        self.assertIsInstance(vars(clusters.Cluster)["capacity"], property)
        self.assertIsNone(vars(clusters.Cluster)["drift"].fset)
        self.assertIsNotNone(vars(clusters.Cluster)["capacity"].fset)
        self.assertTrue(inspect.isgeneratorfunction(runs.each_state))
        self.assertTrue(inspect.isgeneratorfunction(relations.Relation.each_order))
        self.assertTrue(inspect.isgeneratorfunction(readings.Reading.each_path))
        self.assertTrue(inspect.isgeneratorfunction(members.each_member))
        self.assertTrue(inspect.isgeneratorfunction(dealings.each_home))


if __name__ == "__main__":
    unittest.main()
