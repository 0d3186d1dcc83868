"""The error classes of the interface."""

import unittest

from forkbeats import errors
from forkbeats.errors import ForkError

ATTRIBUTES = {
    "BadName": ["name"],
    "UnknownFork": ["name"],
    "RepeatedFork": ["name"],
    "BadCount": ["count"],
    "BadLimit": ["value"],
    "BadWord": ["word"],
    "BadText": ["text"],
    "BadStep": ["step"],
    "BadLot": ["size"],
    "TooDeep": ["depth"],
    "TooMany": ["what", "most"],
    "Clash": ["name"],
    "Apart": ["first", "second"],
    "NoStrike": ["index"],
    "NoBlock": ["index"],
    "NoFitting": [],
    "NothingToUndo": [],
    "NothingToRedo": [],
    "LineError": ["index", "line"],
}
STRINGS = ["name", "word", "text", "what", "first", "second", "line"]


def values_of(names):
    """Return a value of the listed kind for each attribute, all of them different."""
    return [f"text {at}" if name in STRINGS else 10 ** 3999 + at for at, name in enumerate(names)]


class ErrorsTest(unittest.TestCase):
    def test_there_are_nineteen_classes_under_the_base_class(self):
        kinds = [kind for kind in vars(errors).values() if isinstance(kind, type)]
        self.assertEqual(len(ATTRIBUTES), 19)
        self.assertEqual({kind.__name__ for kind in kinds}, {"ForkError", *ATTRIBUTES})

    def test_the_base_class_is_directly_under_value_error(self):
        self.assertEqual(ForkError.__bases__, (ValueError,))
        self.assertEqual(ForkError.__module__, "forkbeats.errors")

    def test_each_class_is_directly_under_the_base_class(self):
        for word in ATTRIBUTES:
            with self.subTest(word):
                kind = getattr(errors, word)
                self.assertEqual(kind.__bases__, (ForkError,))
                self.assertTrue(issubclass(kind, ValueError))
                self.assertEqual(kind.__module__, "forkbeats.errors")

    def test_no_class_is_one_of_the_other_eighteen(self):
        for word in ATTRIBUTES:
            error = getattr(errors, word)(*values_of(ATTRIBUTES[word]))
            kinds = [other for other in ATTRIBUTES if isinstance(error, getattr(errors, other))]
            self.assertEqual(kinds, [word])

    def test_the_arguments_are_the_attributes(self):
        for word, names in ATTRIBUTES.items():
            with self.subTest(word):
                values = values_of(names)
                self.assertEqual(vars(getattr(errors, word)(*values)), dict(zip(names, values)))

    def test_the_arguments_have_the_names_of_the_attributes(self):
        for word, names in ATTRIBUTES.items():
            with self.subTest(word):
                told = dict(zip(names, values_of(names)))
                self.assertEqual(vars(getattr(errors, word)(**told)), told)

    def test_a_raised_error_is_caught_by_each_of_its_classes(self):
        for word, names in ATTRIBUTES.items():
            kind = getattr(errors, word)
            for base in (kind, ForkError, ValueError):
                with self.subTest(word), self.assertRaises(base):
                    raise kind(*values_of(names))


if __name__ == "__main__":
    unittest.main()
