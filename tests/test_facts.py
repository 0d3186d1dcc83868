"""Facts (points 1, 2 and 8 to 12)."""

import itertools
import unittest

from forkbeats.errors import BadCount, BadName, RepeatedFork, TooDeep, UnknownFork
from forkbeats.facts import (
    Above, AsOften, Between, Both, Either, Fact, Highest, InTune, MoreOften, Not, Trio,
)
from forkbeats.tunings import Tuning
from tests.helpers import caught

NO_NAMES = ["", "abcdefghijklm", "A", "aB", "a1", "a b", "\u00e4", "a\n"]
FAR = 10 ** 30


def trio(a, b, c):
    """Create a trio as the other kinds are created, by position alone."""
    return Trio(a, b, c, beats=(1, 2, 3))


# Each kind with the number of names that it is created with here.
PLAIN = [(Above, 2), (InTune, 2), (Between, 3), (Highest, 4), (AsOften, 4), (MoreOften, 4), (trio, 3)]
ALONE = [(Above, 2), (InTune, 2), (Between, 3), (Highest, 2), (Highest, 5), (trio, 3)]
PAIRS = [AsOften, MoreOften]


def one_of_each():
    """Return a fact of each kind, with its forks and its depth."""
    above = Above("b", "a")
    return [
        (above, ["b", "a"], 1),
        (InTune("b", "a"), ["b", "a"], 1),
        (Between("c", "a", "b"), ["c", "a", "b"], 1),
        (Highest("c"), ["c"], 1),
        (Highest("c", "d", "a"), ["c", "d", "a"], 1),
        (AsOften("b", "a", "c", "d"), ["b", "a", "c", "d"], 1),
        (MoreOften("d", "c", "b", "a"), ["d", "c", "b", "a"], 1),
        (Trio("c", "a", "b", beats=(3, 1, 2)), ["c", "a", "b"], 1),
        (Not(above), ["b", "a"], 2),
        (Both(above, InTune("c", "b")), ["b", "a", "c"], 2),
        (Either(InTune("c", "b"), Not(above)), ["c", "b", "a"], 3),
    ]


def nested(depth):
    """Return a fact with this depth."""
    fact = Above("a", "b")
    for _ in range(depth - 1):
        fact = Not(fact)
    return fact


def told(fact):
    """Return what a fact tells of itself, to compare it later."""
    return str(fact), fact.forks(), fact.depth, fact(Tuning.of(a=0, b=1, c=2, d=4))


class FactCase(unittest.TestCase):
    def check(self, fact, holds, **pitches):
        """Check the fact for the tuning, also slid far to either side and turned over twice."""
        tuning = Tuning.of(**pitches)
        for other in [tuning, tuning + FAR, tuning - FAR, -(-tuning)]:
            self.assertIs(fact(other), holds, f"{fact} for {other}")

    def check_turned(self, fact, holds, turned, **pitches):
        """Check the fact for the tuning and for the tuning turned over."""
        self.check(fact, holds, **pitches)
        self.check(fact, turned, **{name: -pitch for name, pitch in pitches.items()})


class HoldingTest(FactCase):
    def test_above(self):
        self.check_turned(Above("a", "b"), True, False, a=1, b=0)
        self.check_turned(Above("a", "b"), False, True, a=-3, b=2)
        self.check_turned(Above("a", "b"), False, False, a=2, b=2)
        self.check_turned(Above("a", "b"), True, False, a=FAR, b=-FAR)
        self.check_turned(Above("a", "b"), True, False, a=FAR, b=FAR - 1)
        self.check_turned(Above("b", "a"), True, False, a=0, b=1)

    def test_in_tune(self):
        self.check_turned(InTune("a", "b"), True, True, a=2, b=2)
        self.check_turned(InTune("a", "b"), False, False, a=2, b=3)
        self.check_turned(InTune("a", "b"), False, False, a=2, b=-2)
        self.check_turned(InTune("a", "b"), True, True, a=-FAR, b=-FAR)
        self.check_turned(InTune("a", "b"), False, False, a=FAR, b=FAR + 1)

    def test_between(self):
        fact = Between("a", "b", "c")
        self.check_turned(fact, True, True, a=0, b=1, c=2)
        self.check_turned(fact, True, True, a=5, b=-1, c=-2)
        self.check_turned(fact, True, True, a=-FAR, b=FAR - 1, c=FAR)
        for a, b, c in [(0, 0, 2), (0, 2, 2), (0, 3, 2), (0, -1, 2), (1, 1, 1), (2, 1, 2), (2, 3, 2), (FAR, -FAR, 0)]:
            self.check_turned(fact, False, False, a=a, b=b, c=c)

    def test_highest(self):
        fact = Highest("a", "b", "c", "d")
        self.check_turned(fact, True, False, a=3, b=2, c=-1, d=2)
        self.check_turned(fact, False, True, a=-3, b=2, c=-1, d=2)
        for at in ["b", "c", "d"]:
            self.check_turned(fact, False, False, **{"a": 3, "b": 0, "c": 1, "d": 2, at: 3})
            self.check_turned(fact, False, False, **{"a": 3, "b": 0, "c": 1, "d": 2, at: 4})
        self.check_turned(Highest("a", "b"), True, False, a=FAR, b=-FAR)

    def test_highest_without_others(self):
        self.check_turned(Highest("a"), True, True, a=-5)
        self.check_turned(Highest("a"), True, True, a=0, b=3, c=-3)

    def test_as_often(self):
        fact = AsOften("a", "b", "c", "d")
        self.check_turned(fact, True, True, a=0, b=2, c=7, d=5)
        self.check_turned(fact, True, True, a=2, b=0, c=7, d=5)
        self.check_turned(fact, True, True, a=1, b=1, c=4, d=4)
        self.check_turned(fact, False, False, a=0, b=2, c=5, d=8)
        self.check_turned(fact, False, False, a=0, b=3, c=5, d=3)
        self.check_turned(fact, False, False, a=0, b=2, c=0, d=3)
        self.check_turned(fact, True, True, a=-FAR, b=FAR, c=0, d=2 * FAR)

    def test_more_often(self):
        fact = MoreOften("a", "b", "c", "d")
        self.check_turned(fact, True, True, a=0, b=3, c=7, d=5)
        self.check_turned(fact, True, True, a=3, b=0, c=5, d=7)
        self.check_turned(fact, False, False, a=0, b=2, c=7, d=5)
        self.check_turned(fact, False, False, a=0, b=1, c=7, d=5)
        self.check_turned(fact, False, False, a=1, b=0, c=9, d=5)
        self.check_turned(fact, True, True, a=-FAR, b=FAR, c=FAR, d=1 - FAR)

    def test_names_that_repeat_across_the_pairs(self):
        self.check_turned(AsOften("a", "b", "b", "a"), True, True, a=0, b=2)
        self.check_turned(AsOften("a", "b", "a", "b"), True, True, a=0, b=2)
        self.check_turned(AsOften("a", "b", "b", "c"), True, True, a=0, b=2, c=0)
        self.check_turned(AsOften("a", "b", "b", "c"), False, False, a=0, b=2, c=3)
        self.check_turned(AsOften("a", "b", "a", "c"), True, True, a=0, b=2, c=-2)
        self.check_turned(MoreOften("a", "b", "b", "a"), False, False, a=0, b=2)
        self.check_turned(MoreOften("a", "b", "c", "a"), True, True, a=0, b=-2, c=1)
        self.check_turned(MoreOften("a", "b", "c", "a"), False, False, a=0, b=-2, c=3)

    def test_trio(self):
        for beats in itertools.permutations((2, 3, 5)):
            fact = Trio("a", "b", "c", beats=beats)
            for a, b, c in itertools.permutations((0, 2, 5)):
                self.check_turned(fact, True, True, a=a, b=b, c=c)
            for a, b, c in [(0, 3, 6), (0, 2, 4), (0, 0, 5), (0, 5, 10), (2, 3, 5), (0, 1, 5)]:
                self.check_turned(fact, False, False, a=a, b=b, c=c)

    def test_trio_with_equal_beats(self):
        self.check_turned(Trio("a", "b", "c", beats=(0, 0, 0)), True, True, a=4, b=4, c=4)
        self.check_turned(Trio("a", "b", "c", beats=(2, 0, 2)), True, True, a=4, b=2, c=4)
        self.check_turned(Trio("a", "b", "c", beats=(2, 0, 2)), False, False, a=4, b=2, c=0)
        self.check_turned(Trio("a", "b", "c", beats=(0, 2, 0)), False, False, a=4, b=2, c=4)
        self.check_turned(Trio("a", "b", "c", beats=(1, 1, 1)), False, False, a=0, b=1, c=2)

    def test_trio_far_away(self):
        self.check_turned(Trio("a", "b", "c", beats=(1, 2, 3)), False, False, a=-FAR, b=0, c=FAR)
        self.check_turned(Trio("a", "b", "c", beats=(10 ** 9, 10 ** 9, 0)), True, True, a=FAR, b=FAR + 10 ** 9, c=FAR)

    def test_not(self):
        for fact, _, _ in one_of_each():
            for pitches in itertools.product((0, 1, 2), repeat=4):
                tuning = Tuning(["a", "b", "c", "d"], list(pitches))
                self.assertIs(Not(fact)(tuning), not fact(tuning))

    def test_both_and_either(self):
        for first, second in itertools.product((1, -1), repeat=2):
            facts = Above("a", "b"), Above("c", "d")
            pitches = {"a": first, "b": 0, "c": second, "d": 0}
            self.check(Both(*facts), first == 1 and second == 1, **pitches)
            self.check(Either(*facts), first == 1 or second == 1, **pitches)

    def test_more_names_in_the_tuning(self):
        for fact, forks, _ in one_of_each():
            for pitches in itertools.product((0, 1, 2), repeat=len(forks)):
                told = dict(zip(forks, pitches))
                more = {"y": 9, **told, "z": -9}
                self.assertIs(fact(Tuning.of(**told)), fact(Tuning.of(**more)))

    def test_the_order_of_the_tuning_does_not_matter(self):
        for fact, forks, _ in one_of_each():
            for pitches in itertools.product((0, 1, 2), repeat=len(forks)):
                tuning = Tuning(forks, list(pitches))
                self.assertIs(fact(tuning), fact(Tuning(forks[::-1], list(pitches[::-1]))))


class ForksTest(unittest.TestCase):
    def test_the_names_in_the_order_of_their_first_occurrence(self):
        for fact, forks, _ in one_of_each():
            self.assertEqual(fact.forks(), forks)
            self.assertIs(type(fact.forks()), list)

    def test_no_duplicates(self):
        self.assertEqual(AsOften("b", "a", "c", "b").forks(), ["b", "a", "c"])
        self.assertEqual(AsOften("b", "a", "a", "b").forks(), ["b", "a"])
        self.assertEqual(MoreOften("b", "a", "b", "c").forks(), ["b", "a", "c"])
        self.assertEqual(Both(Above("b", "a"), Above("c", "a")).forks(), ["b", "a", "c"])
        self.assertEqual(Either(Above("b", "a"), Above("a", "b")).forks(), ["b", "a"])

    def test_the_first_part_comes_first(self):
        first, second = Highest("d", "a"), Highest("c", "a", "b")
        self.assertEqual(Both(first, second).forks(), ["d", "a", "c", "b"])
        self.assertEqual(Both(second, first).forks(), ["c", "a", "b", "d"])
        self.assertEqual(Either(first, second).forks(), ["d", "a", "c", "b"])
        self.assertEqual((Not(second) & (first | Above("e", "c"))).forks(), ["c", "a", "b", "d", "e"])

    def test_the_list_that_is_returned_is_new(self):
        for fact, forks, _ in one_of_each():
            fact.forks().append("z")
            fact.forks().reverse()
            self.assertEqual(fact.forks(), forks)

    def test_the_first_missing_name(self):
        for fact, forks, _ in one_of_each():
            for many in range(len(forks)):
                for here in itertools.combinations(forks, many):
                    missing = [name for name in forks if name not in here]
                    tuning = Tuning(list(here), list(range(many)))
                    self.assertEqual(caught(fact, tuning), (UnknownFork, {"name": missing[0]}))
                    self.assertEqual(caught(fact, tuning | Tuning.of(z=0)), (UnknownFork, {"name": missing[0]}))

    def test_the_missing_name_is_told_whatever_the_other_parts_say(self):
        tuning = Tuning.of(a=1, b=0)
        holds, breaks, missing = Above("a", "b"), Above("b", "a"), InTune("a", "z")
        for fact in [holds | missing, missing | holds, breaks & missing, missing & breaks, ~(holds | missing)]:
            self.assertEqual(caught(fact, tuning), (UnknownFork, {"name": "z"}))
        self.assertEqual(caught(Highest("b", "a", "z"), tuning), (UnknownFork, {"name": "z"}))
        self.assertEqual(caught(Both(Above("y", "a"), Above("x", "a")), tuning), (UnknownFork, {"name": "y"}))


class CheckTest(unittest.TestCase):
    def test_an_invalid_name_at_each_place(self):
        for kind, many in PLAIN:
            for at in range(many):
                for name in NO_NAMES:
                    names = ["a", "b", "c", "d"][:many]
                    names[at] = name
                    self.assertEqual(caught(kind, *names), (BadName, {"name": name}))

    def test_the_first_invalid_name_is_told(self):
        for kind, many in PLAIN:
            for low, high in itertools.combinations(range(many), 2):
                names = ["a", "b", "c", "d"][:many]
                names[low], names[high] = "Y", "X"
                self.assertEqual(caught(kind, *names), (BadName, {"name": "Y"}))

    def test_invalid_names_come_before_repeated_ones(self):
        for kind in [Between, trio, Highest]:
            self.assertEqual(caught(kind, "a", "a", "B"), (BadName, {"name": "B"}))
        for kind in PAIRS:
            self.assertEqual(caught(kind, "a", "a", "c", "D"), (BadName, {"name": "D"}))
            self.assertEqual(caught(kind, "a", "a", "C", "C"), (BadName, {"name": "C"}))
        for kind, many in ALONE:
            self.assertEqual(caught(kind, *["A"] * many), (BadName, {"name": "A"}))

    def test_a_repeated_name_at_each_place(self):
        for kind, many in ALONE:
            for low, high in itertools.combinations(range(many), 2):
                names = ["a", "b", "c", "d", "e"][:many]
                names[high] = names[low]
                self.assertEqual(caught(kind, *names), (RepeatedFork, {"name": names[low]}))

    def test_the_first_repeated_name_is_told(self):
        self.assertEqual(caught(Highest, "a", "b", "b", "a"), (RepeatedFork, {"name": "b"}))
        self.assertEqual(caught(Highest, "a", "b", "c", "c", "b"), (RepeatedFork, {"name": "c"}))
        self.assertEqual(caught(Highest, "c", "b", "a", "b", "a"), (RepeatedFork, {"name": "b"}))

    def test_repeated_names_in_pairs(self):
        for kind in PAIRS:
            self.assertEqual(caught(kind, "a", "a", "c", "d"), (RepeatedFork, {"name": "a"}))
            self.assertEqual(caught(kind, "a", "b", "d", "d"), (RepeatedFork, {"name": "d"}))
            self.assertEqual(caught(kind, "b", "b", "d", "d"), (RepeatedFork, {"name": "b"}))
            self.assertEqual(caught(kind, "a", "b", "a", "a"), (RepeatedFork, {"name": "a"}))
            self.assertEqual(caught(kind, "b", "a", "a", "a"), (RepeatedFork, {"name": "a"}))

    def test_names_may_repeat_across_pairs(self):
        for kind in PAIRS:
            for names in ["abab", "abba", "abac", "abca", "abbc", "abcb"]:
                self.assertEqual(kind(*names).forks(), sorted(set(names)))

    def test_the_bounds_of_a_count(self):
        most = Fact.MOST_COUNT
        self.assertEqual(str(Trio("a", "b", "c", beats=(most, 0, most))), "trio a b c 0 1000000000 1000000000")
        for at in range(3):
            for count in [-1, most + 1, -(10 ** 3999), 10 ** 3999]:
                beats = [0, most, 5]
                beats[at] = count
                self.assertEqual(caught(Trio, "a", "b", "c", beats=tuple(beats)), (BadCount, {"count": count}))

    def test_the_first_count_in_the_order_of_the_tuple_is_told(self):
        most = Fact.MOST_COUNT
        for beats, count in [
            ((5, -1, -2), -1), ((5, -2, -1), -2), ((most + 2, -1, 0), most + 2), ((0, most + 2, most + 1), most + 2),
        ]:
            self.assertEqual(caught(Trio, "a", "b", "c", beats=beats), (BadCount, {"count": count}))

    def test_names_come_before_counts(self):
        self.assertEqual(caught(Trio, "a", "b", "C", beats=(-1, 0, 0)), (BadName, {"name": "C"}))
        self.assertEqual(caught(Trio, "a", "b", "a", beats=(-1, 0, 0)), (RepeatedFork, {"name": "a"}))
        self.assertEqual(caught(Trio, "a", "a", "C", beats=(-1, 0, 0)), (BadName, {"name": "C"}))

    def test_beats_are_passed_by_keyword_only(self):
        with self.assertRaises(TypeError):
            Trio("a", "b", "c", (1, 2, 3))
        with self.assertRaises(TypeError):
            Trio("a", "b", "c")

    def test_the_bounds_of_the_class(self):
        self.assertEqual((Fact.MOST_DEPTH, Fact.MOST_COUNT), (6, 1000000000))

    def test_all_kinds_are_facts(self):
        for fact, _, _ in one_of_each():
            self.assertIsInstance(fact, Fact)


class CompoundTest(unittest.TestCase):
    def test_the_operators_and_the_classes_give_the_same(self):
        for first, _, _ in one_of_each():
            self.assertIs(type(~first), Not)
            self.assertEqual(told(~first), told(Not(first)))
            for second, _, _ in one_of_each():
                self.assertIs(type(first & second), Both)
                self.assertIs(type(first | second), Either)
                self.assertEqual(told(first & second), told(Both(first, second)))
                self.assertEqual(told(first | second), told(Either(first, second)))

    def test_depth(self):
        for fact, _, depth in one_of_each():
            self.assertEqual(fact.depth, depth)
        for first, second in itertools.product(range(1, 6), repeat=2):
            depth = 1 + max(first, second)
            self.assertEqual(Both(nested(first), nested(second)).depth, depth)
            self.assertEqual((nested(first) | nested(second)).depth, depth)

    def test_the_greatest_depth(self):
        self.assertEqual(nested(6).depth, 6)
        self.assertEqual((~nested(5)).depth, 6)
        self.assertEqual((nested(5) & nested(1)).depth, 6)
        self.assertEqual((nested(1) | nested(5)).depth, 6)

    def test_a_greater_depth(self):
        deep, flat = nested(6), nested(1)
        for act in [
            lambda: Not(deep), lambda: Both(deep, flat), lambda: Both(flat, deep), lambda: Both(deep, deep),
            lambda: Either(deep, flat), lambda: Either(flat, deep), lambda: ~deep, lambda: deep & flat,
            lambda: flat & deep, lambda: deep | flat, lambda: flat | deep,
        ]:
            self.assertEqual(caught(act), (TooDeep, {"depth": 7}))

    def test_the_parts_stay(self):
        first, second = nested(6), Trio("c", "a", "b", beats=(3, 1, 2))
        before = told(first), told(second)
        caught(lambda: first & second)
        caught(lambda: ~first)
        ~second, second | second, second & ~second
        self.assertEqual((told(first), told(second)), before)

    def test_the_same_fact_twice(self):
        fact = Above("a", "b")
        self.assertEqual(told(fact & fact), ("both (above a b) (above a b)", ["a", "b"], 2, False))
        self.assertEqual(told(fact | ~fact), ("either (above a b) (not (above a b))", ["a", "b"], 3, True))


class WrittenFormTest(unittest.TestCase):
    def test_plain_kinds(self):
        self.assertEqual([str(fact) for fact, _, depth in one_of_each() if depth == 1], [
            "above b a", "intune b a", "between c a b", "highest c", "highest c d a", "asoften b a c d",
            "moreoften d c b a", "trio c a b 1 2 3",
        ])

    def test_repeated_names_are_written_again(self):
        self.assertEqual(str(AsOften("b", "a", "a", "b")), "asoften b a a b")
        self.assertEqual(str(MoreOften("b", "a", "b", "c")), "moreoften b a b c")

    def test_the_counts_of_a_trio_are_ascending(self):
        for beats in itertools.permutations((9, 10, 100)):
            self.assertEqual(str(Trio("b", "c", "a", beats=beats)), "trio b c a 9 10 100")
        self.assertEqual(str(Trio("a", "b", "c", beats=(1, 0, 1))), "trio a b c 0 1 1")

    def test_compound_kinds(self):
        first, second = Above("a", "b"), Highest("c")
        self.assertEqual(str(Not(first)), "not (above a b)")
        self.assertEqual(str(Both(first, second)), "both (above a b) (highest c)")
        self.assertEqual(str(Both(second, first)), "both (highest c) (above a b)")
        self.assertEqual(str(Either(first, second)), "either (above a b) (highest c)")
        self.assertEqual(str(~(first & ~second) | first),
                         "either (not (both (above a b) (not (highest c)))) (above a b)")


if __name__ == "__main__":
    unittest.main()
