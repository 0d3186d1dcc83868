"""The interface and its examples: every name stands where the document lists it."""

import importlib
import inspect
import unittest

from forkbeats.bench import Bench
from forkbeats.certificates import checks
from forkbeats.desk import Desk
from forkbeats.drift import drifts
from forkbeats.errors import BadText, Clash, LineError
from forkbeats.facts import Above, Between, Trio
from forkbeats.fittings import fittings
from forkbeats.graph import blocks, cut_forks, walk
from forkbeats.notation import parse_fact
from forkbeats.plans import next_pair, settling, strategy
from forkbeats.scales import alike_in_beats, rebuild
from forkbeats.tunings import Tuning
from forkbeats.verdicts import Trial, least_limit, suppose, surely_off, verdict
from tests.helpers import caught

METHODS = {
    "tunings": {
        "Tuning": [
            "__init__", "of", "read", "names", "pitches", "beats", "normal", "like", "__getitem__", "__contains__",
            "__len__", "__eq__", "__neg__", "__add__", "__radd__", "__sub__", "__abs__", "__or__", "__str__",
            "__iter__",
        ],
    },
    "facts": {
        "Fact": ["forks", "__call__", "__invert__", "__and__", "__or__", "__str__", "MOST_DEPTH", "MOST_COUNT"],
        "Above": ["__init__"],
        "InTune": ["__init__"],
        "Between": ["__init__"],
        "Highest": ["__init__"],
        "AsOften": ["__init__"],
        "MoreOften": ["__init__"],
        "Trio": ["__init__"],
        "Not": ["__init__"],
        "Both": ["__init__"],
        "Either": ["__init__"],
    },
    "bench": {
        "Bench": [
            "__init__", "of", "add", "strike", "tell", "change", "undo", "redo", "history", "forks", "strikes", "facts",
            "twin", "limit", "rounds", "MOST_FORKS", "MOST_STRIKES", "MOST_FACTS", "MOST_LIMIT",
        ],
    },
    "verdicts": {"Trial": ["__init__", "__enter__", "__exit__"]},
    "desk": {"Desk": ["__init__", "run"]},
}
FUNCTIONS = {
    "notation": {"parse_fact": "(text)"},
    "bench": {"joined": "(first, second)"},
    "graph": {
        "pieces": "(bench)",
        "walk": "(bench, a, b)",
        "blocks": "(bench)",
        "cut_forks": "(bench)",
        "part": "(bench, index)",
    },
    "fittings": {
        "fits": "(bench, tuning)",
        "residues": "(bench, tuning)",
        "fittings": "(bench)",
        "count_fittings": "(bench)",
        "shapes": "(bench)",
        "count_shapes": "(bench)",
        "turn_block": "(bench, tuning, index)",
        "block_counts": "(bench)",
    },
    "certificates": {
        "rises": "(bench, index)",
        "certificate": "(bench, question, *, holds=True)",
        "checks": "(bench, question, tree, *, holds=True)",
    },
    "verdicts": {
        "verdict": "(bench, question)",
        "possible_beats": "(bench, a, b)",
        "sure_beats": "(bench)",
        "sure_above": "(bench)",
        "sure_between": "(bench)",
        "surely_off": "(bench)",
        "sounds": "(bench)",
        "least_limit": "(bench)",
        "attempt": "(bench, act)",
        "suppose": "(bench, question, *facts)",
    },
    "plans": {
        "groups": "(bench, *pairs)",
        "next_pair": "(bench)",
        "settling": "(bench)",
        "strategy": "(bench)",
    },
    "scales": {
        "beats_of": "(pitches)",
        "alike_in_beats": "(first, second)",
        "sums": "(first, second)",
        "differences": "(first, second)",
        "rebuild": "(beats)",
        "degrees": "(bench, steps)",
    },
    "drift": {"drifts": "(bench, group, later, *, most=12)"},
    "desk": {"table": "(bench)"},
}
BENCH = {
    "of": "(*strikes, limit=0)",
    "add": "(self, *names)",
    "strike": "(self, a, b, count)",
    "tell": "(self, fact)",
    "change": "(self, what, value)",
    "undo": "(self)",
    "redo": "(self)",
    "history": "(self)",
    "forks": "(self)",
    "strikes": "(self)",
    "facts": "(self)",
    "twin": "(self)",
}


class InterfaceTest(unittest.TestCase):
    def test_each_method_stands_in_its_class_in_its_file(self):
        for module, classes in METHODS.items():
            for name, methods in classes.items():
                kind = getattr(importlib.import_module(f"forkbeats.{module}"), name)
                self.assertEqual(kind.__module__, f"forkbeats.{module}")
                for method in methods:
                    self.assertIn(method, vars(kind), f"{name}.{method}")

    def test_each_function_stands_in_its_file_with_its_arguments(self):
        for module, functions in FUNCTIONS.items():
            for name, arguments in functions.items():
                function = getattr(importlib.import_module(f"forkbeats.{module}"), name)
                self.assertTrue(inspect.isfunction(function), name)
                self.assertEqual(function.__module__, f"forkbeats.{module}")
                self.assertEqual(str(inspect.signature(function)), arguments, name)

    def test_the_arguments_of_the_methods_of_a_bench(self):
        self.assertEqual(str(inspect.signature(Bench)), "(limit=0)")
        for name, arguments in BENCH.items():
            self.assertEqual(str(inspect.signature(getattr(Bench, name))), arguments, name)

    def test_the_arguments_of_a_trial(self):
        self.assertEqual(str(inspect.signature(Trial)), "(bench)")

    def test_the_arguments_of_a_desk(self):
        self.assertEqual(str(inspect.signature(Desk)), "()")
        self.assertEqual(str(inspect.signature(Desk.run)), "(self, *lines)")

    def test_of_is_a_class_method_and_read_a_static_method(self):
        self.assertIsInstance(vars(Tuning)["of"], classmethod)
        self.assertIsInstance(vars(Bench)["of"], classmethod)
        self.assertIsInstance(vars(Tuning)["read"], staticmethod)

    def test_limit_and_rounds_are_properties(self):
        self.assertIsInstance(vars(Bench)["limit"], property)
        self.assertIsInstance(vars(Bench)["rounds"], property)


class ExamplesTest(unittest.TestCase):
    def test_tunings(self):
        tuning = Tuning.of(b=3, a=-1)
        self.assertEqual(
            (str(2 + tuning), str(-tuning), abs(tuning), tuning.normal().pitches()),
            ("b=5 a=1", "b=-3 a=1", 4, (0, -4)))
        self.assertEqual(
            (list(Tuning.of(b=3, a=-1)), Tuning.of(b=3) == Tuning.of(b=3, a=0)),
            (["b", "a"], False))
        self.assertEqual(
            caught(lambda: Tuning.read("a=1 b=2") | Tuning.read("c=0 b=3")),
            (Clash, {"name": "b"}))

    def test_facts(self):
        fact = ~Above("a", "b") & Trio("a", "c", "b", beats=(5, 2, 3))
        self.assertEqual(
            (str(fact), fact.forks(), fact.depth, fact(Tuning.of(a=0, b=5, c=3))),
            ("both (not (above a b)) (trio a c b 2 3 5)", ["a", "b", "c"], 3, True))

    def test_notation(self):
        self.assertEqual(caught(parse_fact, "trio a b c 3 1 2"), (BadText, {"text": "trio a b c 3 1 2"}))

    def test_bench(self):
        bench = Bench.of(("a", "b", 4), limit=1)
        bench.undo()
        self.assertEqual(
            (bench.history(), bench.redo(), bench.strikes(), bench.rounds, bench.limit),
            (["add a", "add b"], "strike a b 4", [("a", "b", 4)], 0, 1))

    def test_graph(self):
        bench = Bench.of(("a", "b", 1), ("b", "c", 2), ("c", "d", 2), ("d", "b", 0))
        self.assertEqual(
            (blocks(bench), cut_forks(bench), walk(bench, "a", "d")),
            ([[0], [1, 2, 3]], ["b"], [0, 3]))

    def test_fittings(self):
        bench = Bench.of(("a", "b", 1), ("b", "c", 2), ("c", "a", 3))
        rows = list(fittings(bench))
        self.assertEqual((len(rows), rows[0].pitches(), rows[1].pitches()), (2, (0, -1, -3), (0, 1, 3)))

    def test_certificates(self):
        bench = Bench.of(("a", "b", 0), ("b", "c", 0))
        tree = ("split", 0, [("split", 1, [("told", [[0], [0, 1]])])])
        self.assertEqual(
            (checks(bench, Between("a", "b", "c"), tree), checks(bench, Between("a", "b", "c"), tree, holds=False)),
            (False, True))

    def test_verdicts(self):
        bench = Bench.of(("a", "b", 1), ("b", "c", 2), ("c", "a", 3))
        self.assertEqual(
            (verdict(bench, Above("a", "c")), suppose(bench, Above("a", "c"), Above("a", "b")), bench.facts()),
            (("open", (0, -1, -3), (0, 1, 3)), "sure", []))
        bench = Bench.of(("a", "b", 0), ("a", "b", 2), limit=2)
        self.assertEqual(
            (least_limit(bench)[0], least_limit(bench)[1], surely_off(bench)),
            (2, (0, -1), [0, 1]))

    def test_plans(self):
        bench = Bench.of(("a", "b", 1), ("b", "c", 2))
        self.assertEqual(
            (next_pair(bench), settling(bench), strategy(bench)),
            (("a", "c", 1), [("a", "c")],
             ("strike", "a", "c", [(1, ("shape", (0, -1, 1))), (3, ("shape", (0, -1, -3)))])))

    def test_scales(self):
        self.assertEqual(
            (rebuild([1, 2, 3]), rebuild([1, 1, 1]), alike_in_beats((0, 1, 4, 10, 12, 17), (0, 1, 8, 11, 13, 17))),
            ([(0, 1, 3)], [], True))

    def test_drift(self):
        self.assertEqual(
            drifts(Bench.of(("a", "b", 3)), ["b"], [("b", "a", 5)], most=4), [(-2, (0, -3)), (2, (0, 3))])

    def test_desk(self):
        self.assertEqual(
            Desk().run("add a b c", "strike a b 1", "strike b c 2", "count", "beats a c", "undo", "ask above a b"),
            ["added 3", "strike 0", "strike 1", "count 4", "beats 1 3", "undone strike b c 2", "open"])
        self.assertEqual(
            caught(Desk().run, "add a", "strike a a 1", "add"), (LineError, {"index": 1, "line": "strike a a 1"}))


if __name__ == "__main__":
    unittest.main()
