"""The interface and its examples: every name stands where the document lists it."""

import importlib
import unittest

from forkbeats.errors import Clash
from forkbeats.facts import Above, Trio
from forkbeats.tunings import Tuning
from tests.helpers import caught

METHODS = {
    "tunings": {
        "Tuning": [
            "__init__", "of", "read", "names", "pitches", "beats", "normal", "like", "__getitem__", "__contains__",
            "__len__", "__eq__", "__neg__", "__add__", "__radd__", "__sub__", "__abs__", "__or__", "__str__",
            "__iter__",
        ],
    },
    "facts": {
        "Fact": ["forks", "__call__", "__invert__", "__and__", "__or__", "__str__", "MOST_DEPTH", "MOST_COUNT"],
        "Above": ["__init__"],
        "InTune": ["__init__"],
        "Between": ["__init__"],
        "Highest": ["__init__"],
        "AsOften": ["__init__"],
        "MoreOften": ["__init__"],
        "Trio": ["__init__"],
        "Not": ["__init__"],
        "Both": ["__init__"],
        "Either": ["__init__"],
    },
}


class InterfaceTest(unittest.TestCase):
    def test_each_method_stands_in_its_class_in_its_file(self):
        for module, classes in METHODS.items():
            for name, methods in classes.items():
                kind = getattr(importlib.import_module(f"forkbeats.{module}"), name)
                self.assertEqual(kind.__module__, f"forkbeats.{module}")
                for method in methods:
                    self.assertIn(method, vars(kind), f"{name}.{method}")

    def test_of_is_a_class_method_and_read_a_static_method(self):
        self.assertIsInstance(vars(Tuning)["of"], classmethod)
        self.assertIsInstance(vars(Tuning)["read"], staticmethod)


class ExamplesTest(unittest.TestCase):
    def test_tunings(self):
        tuning = Tuning.of(b=3, a=-1)
        self.assertEqual(
            (str(2 + tuning), str(-tuning), abs(tuning), tuning.normal().pitches()),
            ("b=5 a=1", "b=-3 a=1", 4, (0, -4)))
        self.assertEqual(
            (list(Tuning.of(b=3, a=-1)), Tuning.of(b=3) == Tuning.of(b=3, a=0)),
            (["b", "a"], False))
        self.assertEqual(
            caught(lambda: Tuning.read("a=1 b=2") | Tuning.read("c=0 b=3")),
            (Clash, {"name": "b"}))

    def test_facts(self):
        fact = ~Above("a", "b") & Trio("a", "c", "b", beats=(5, 2, 3))
        self.assertEqual(
            (str(fact), fact.forks(), fact.depth, fact(Tuning.of(a=0, b=5, c=3))),
            ("both (not (above a b)) (trio a c b 2 3 5)", ["a", "b", "c"], 3, True))


if __name__ == "__main__":
    unittest.main()
