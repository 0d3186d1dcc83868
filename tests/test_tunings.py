"""Tunings (points 1 to 7)."""

import unittest

from forkbeats.errors import BadName, BadText, Clash, RepeatedFork, UnknownFork
from forkbeats.tunings import Tuning
from tests.helpers import caught

NO_NAMES = ["", "abcdefghijklm", "A", "aB", "a1", "a b", "\u00e4", "a\n"]
GREAT = 10 ** 3999


def unchanged(tuning):
    """Return what a tuning tells of itself, to compare it later."""
    return tuning.names(), tuning.pitches(), str(tuning), len(tuning)


class CreationTest(unittest.TestCase):
    def test_names_and_pitches_in_order(self):
        tuning = Tuning(["b", "a", "abcdefghijkl"], [3, -1, 0])
        self.assertEqual(tuning.names(), ["b", "a", "abcdefghijkl"])
        self.assertEqual(tuning.pitches(), (3, -1, 0))
        self.assertIs(type(tuning.names()), list)
        self.assertIs(type(tuning.pitches()), tuple)

    def test_keywords_in_the_order_of_the_call(self):
        self.assertEqual(Tuning.of(b=3, a=0).names(), ["b", "a"])
        self.assertEqual(Tuning.of(b=3, a=0).pitches(), (3, 0))
        self.assertEqual(Tuning.of(a=0, b=3).names(), ["a", "b"])
        self.assertEqual(Tuning.of(a=0, b=3).pitches(), (0, 3))

    def test_names_that_the_program_uses_itself_are_keywords_too(self):
        told = {"names": 1, "pitches": 2, "text": 3, "other": 4, "in": 5, "table": 6}
        self.assertEqual(Tuning.of(**told), Tuning(list(told), list(told.values())))

    def test_the_empty_tuning(self):
        for tuning in [Tuning.of(), Tuning([], [])]:
            self.assertEqual(unchanged(tuning), ([], (), "", 0))
            self.assertEqual(list(tuning), [])
        self.assertEqual(Tuning.of(), Tuning([], []))

    def test_an_invalid_name_at_each_place(self):
        for at in range(3):
            for name in NO_NAMES:
                with self.subTest(name=name, at=at):
                    names = ["a", "b", "c"]
                    names[at] = name
                    told = (BadName, {"name": name})
                    self.assertEqual(caught(Tuning, names, [0, 1, 2]), told)
                    self.assertEqual(caught(Tuning.of, **dict.fromkeys(names, 0)), told)

    def test_a_repeated_name_at_each_place(self):
        for names, name in [("aabc", "a"), ("abab", "a"), ("abbc", "b"), ("abca", "a"), ("abcc", "c")]:
            told = (RepeatedFork, {"name": name})
            self.assertEqual(caught(Tuning, list(names), [0, 0, 0, 0]), told)
            self.assertEqual(caught(Tuning, list(names), [0, 1, 2, 3]), told)

    def test_the_first_wrong_place_is_told(self):
        self.assertEqual(caught(Tuning, ["a", "a", "B"], [0, 0, 0]), (RepeatedFork, {"name": "a"}))
        self.assertEqual(caught(Tuning, ["a", "B", "a"], [0, 0, 0]), (BadName, {"name": "B"}))
        self.assertEqual(caught(Tuning, ["B", "B"], [0, 0]), (BadName, {"name": "B"}))
        self.assertEqual(caught(Tuning, ["a", "C", "B"], [0, 0, 0]), (BadName, {"name": "C"}))
        self.assertEqual(caught(Tuning.of, **{"a": 0, "C": 0, "B": 0}), (BadName, {"name": "C"}))

    def test_the_lists_that_are_passed_in_are_copied(self):
        names, pitches = ["a", "b"], [0, 1]
        tuning = Tuning(names, pitches)
        names.append("c")
        names[0] = "d"
        pitches[0] = 9
        pitches.append(2)
        self.assertEqual(unchanged(tuning), (["a", "b"], (0, 1), "a=0 b=1", 2))
        self.assertEqual(tuning["a"], 0)

    def test_the_lists_that_are_passed_in_are_not_changed(self):
        names, pitches = ["b", "a"], [2, 1]
        Tuning(names, pitches)
        self.assertEqual((names, pitches), (["b", "a"], [2, 1]))

    def test_the_lists_that_are_returned_are_new(self):
        tuning = Tuning.of(b=3, a=0)
        tuning.names().append("c")
        tuning.names()[0] = "d"
        self.assertEqual(unchanged(tuning), (["b", "a"], (3, 0), "b=3 a=0", 2))
        self.assertEqual(list(tuning), ["b", "a"])


class AccessTest(unittest.TestCase):
    def test_the_pitch_of_a_name(self):
        tuning = Tuning.of(b=3, a=-1)
        self.assertEqual((tuning["b"], tuning["a"]), (3, -1))

    def test_a_missing_name(self):
        for name in ["c", "", "A", "ab", "a b"]:
            self.assertEqual(caught(lambda: Tuning.of(b=3, a=-1)[name]), (UnknownFork, {"name": name}))
        self.assertEqual(caught(lambda: Tuning.of()["a"]), (UnknownFork, {"name": "a"}))

    def test_whether_a_name_is_there(self):
        tuning = Tuning.of(b=0, a=1)
        self.assertIs("a" in tuning, True)
        self.assertIs("b" in tuning, True)
        self.assertIs("c" in tuning, False)
        self.assertIs("" in tuning, False)
        self.assertIs("ab" in tuning, False)
        self.assertIs("c" not in tuning, True)
        self.assertIs("a" in Tuning.of(), False)

    def test_the_number_of_names(self):
        self.assertEqual([len(Tuning.of()), len(Tuning.of(a=5)), len(Tuning.of(a=0, b=0, c=0))], [0, 1, 3])

    def test_iteration_gives_the_names_in_order(self):
        tuning = Tuning.of(b=3, a=-1, c=0)
        self.assertEqual(list(tuning), ["b", "a", "c"])
        self.assertEqual([name + other for name in tuning for other in tuning][:4], ["bb", "ba", "bc", "ab"])
        self.assertEqual(sorted(tuning), ["a", "b", "c"])

    def test_equal_tunings(self):
        self.assertIs(Tuning.of(b=3, a=0) == Tuning(["b", "a"], [3, 0]), True)
        self.assertIs(Tuning.of(b=3, a=0) != Tuning(["b", "a"], [3, 0]), False)

    def test_unequal_tunings(self):
        tuning = Tuning.of(b=3, a=0)
        others = [
            Tuning.of(a=0, b=3), Tuning.of(b=3), Tuning.of(b=3, a=1), Tuning.of(b=3, c=0),
            Tuning.of(b=3, a=0, c=0), Tuning.of(b=0, a=3), Tuning.of(a=3, b=0), Tuning.of(),
        ]
        for other in others:
            with self.subTest(str(other)):
                self.assertIs(tuning == other, False)
                self.assertIs(other == tuning, False)
                self.assertIs(tuning != other, True)

    def test_a_tuning_equals_nothing_else(self):
        for other in ["a=1", ["a"], {"a": 1}, ("a", 1), None]:
            self.assertIs(Tuning.of(a=1) == other, False)

    def test_beats(self):
        tuning = Tuning.of(a=-2, b=3, c=3, d=GREAT)
        self.assertEqual([tuning.beats("a", "b"), tuning.beats("b", "a"), tuning.beats("b", "c")], [5, 5, 0])
        self.assertEqual(tuning.beats("a", "d"), GREAT + 2)

    def test_beats_of_a_name_with_itself(self):
        self.assertEqual(Tuning.of(a=-2, b=3).beats("a", "a"), 0)

    def test_beats_of_missing_names(self):
        beats = Tuning.of(a=-2, b=3).beats
        self.assertEqual(caught(beats, "x", "b"), (UnknownFork, {"name": "x"}))
        self.assertEqual(caught(beats, "b", "x"), (UnknownFork, {"name": "x"}))
        self.assertEqual(caught(beats, "x", "y"), (UnknownFork, {"name": "x"}))
        self.assertEqual(caught(beats, "y", "x"), (UnknownFork, {"name": "y"}))
        self.assertEqual(caught(beats, "x", "x"), (UnknownFork, {"name": "x"}))
        self.assertEqual(caught(beats, "A", ""), (UnknownFork, {"name": "A"}))


class ArithmeticTest(unittest.TestCase):
    def test_turning_over(self):
        self.assertEqual(-Tuning.of(b=3, a=-1, c=0), Tuning.of(b=-3, a=1, c=0))
        self.assertEqual(-Tuning.of(), Tuning.of())
        self.assertEqual((-Tuning.of(a=GREAT)).pitches(), (-GREAT,))

    def test_sliding(self):
        tuning = Tuning.of(b=3, a=-1)
        self.assertEqual(tuning + 2, Tuning.of(b=5, a=1))
        self.assertEqual(2 + tuning, Tuning.of(b=5, a=1))
        self.assertEqual(tuning - 2, Tuning.of(b=1, a=-3))
        self.assertEqual(tuning + -2, Tuning.of(b=1, a=-3))
        self.assertEqual(-2 + tuning, Tuning.of(b=1, a=-3))
        self.assertEqual(tuning - -2, Tuning.of(b=5, a=1))
        self.assertEqual(tuning + 0, tuning)
        self.assertEqual((tuning + GREAT).pitches(), (GREAT + 3, GREAT - 1))

    def test_sliding_the_empty_tuning(self):
        self.assertEqual([Tuning.of() + 5, 5 + Tuning.of(), Tuning.of() - 5], [Tuning.of()] * 3)

    def test_the_tuning_itself_stays(self):
        tuning = Tuning.of(b=3, a=-1)
        before = unchanged(tuning)
        same = tuning
        tuning += 4
        self.assertEqual(tuning, Tuning.of(b=7, a=3))
        self.assertEqual([-same, 1 + same, same - 1, same.normal()], [
            Tuning.of(b=-3, a=1), Tuning.of(b=4, a=0), Tuning.of(b=2, a=-2), Tuning.of(b=0, a=-4)])
        self.assertEqual(unchanged(same), before)

    def test_the_width(self):
        self.assertEqual(abs(Tuning.of()), 0)
        self.assertEqual(abs(Tuning.of(a=7)), 0)
        self.assertEqual(abs(Tuning.of(a=-7)), 0)
        self.assertEqual(abs(Tuning.of(b=3, a=-1)), 4)
        self.assertEqual(abs(Tuning.of(a=2, b=-5, c=1, d=-6)), 8)
        self.assertEqual(abs(Tuning.of(a=5, b=5)), 0)
        self.assertEqual(abs(Tuning.of(a=GREAT, b=-GREAT)), 2 * GREAT)

    def test_normal(self):
        self.assertEqual(Tuning.of(b=3, a=-1, c=5).normal(), Tuning.of(b=0, a=-4, c=2))
        self.assertEqual(Tuning.of(b=-3, a=1).normal(), Tuning.of(b=0, a=4))
        self.assertEqual(Tuning.of(a=9).normal(), Tuning.of(a=0))
        self.assertEqual(Tuning.of(a=0, b=2).normal(), Tuning.of(a=0, b=2))
        self.assertEqual(Tuning.of().normal(), Tuning.of())

    def test_like(self):
        tuning = Tuning.of(b=3, a=-1, c=4)
        for other in [tuning, tuning + 5, tuning - 70, -tuning, -tuning - 5, 8 + -tuning]:
            self.assertIs(tuning.like(other), True)
            self.assertIs(other.like(tuning), True)
        self.assertIs(Tuning.of().like(Tuning.of()), True)
        self.assertIs(Tuning.of(a=1).like(Tuning.of(a=-8)), True)

    def test_not_like(self):
        tuning = Tuning.of(b=3, a=-1, c=4)
        others = [
            Tuning.of(a=-1, b=3, c=4), Tuning.of(b=3, c=4, a=-1), Tuning.of(b=3, a=-1, c=5), Tuning.of(b=3, a=0, c=4),
            Tuning.of(b=2, a=-1, c=4), Tuning.of(b=3, a=7, c=4), Tuning.of(b=3, a=-1), Tuning.of(b=3, a=-1, d=4),
            Tuning.of(b=3, a=-1, c=4, d=0), Tuning.of(),
        ]
        for other in others:
            with self.subTest(str(other)):
                self.assertIs(tuning.like(other), False)
                self.assertIs(other.like(tuning), False)

    def test_like_needs_the_same_order_even_of_equal_pitches(self):
        self.assertIs(Tuning.of(a=1, b=1).like(Tuning.of(b=1, a=1)), False)


class UnionTest(unittest.TestCase):
    def test_the_names_of_the_first_come_first(self):
        first, other = Tuning.of(c=1, a=2), Tuning.of(b=4, d=-3)
        self.assertEqual(first | other, Tuning.of(c=1, a=2, b=4, d=-3))
        self.assertEqual(other | first, Tuning.of(b=4, d=-3, c=1, a=2))

    def test_shared_names_in_another_order(self):
        first, other = Tuning.of(c=1, a=2, b=0), Tuning.of(e=7, b=0, d=4, a=2)
        self.assertEqual(first | other, Tuning.of(c=1, a=2, b=0, e=7, d=4))
        self.assertEqual(other | first, Tuning.of(e=7, b=0, d=4, a=2, c=1))

    def test_with_itself_and_with_the_empty_tuning(self):
        tuning = Tuning.of(b=1, a=0)
        for union in [tuning | tuning, tuning | Tuning.of(), Tuning.of() | tuning]:
            self.assertEqual(union, tuning)
        self.assertEqual(Tuning.of() | Tuning.of(), Tuning.of())

    def test_the_first_other_pitch_in_the_order_of_the_other(self):
        first = Tuning.of(a=1, b=2, c=3)
        for other, name in [
            (Tuning.of(c=0, b=0, a=0), "c"), (Tuning.of(d=0, b=0, a=0), "b"), (Tuning.of(a=1, c=4, b=0), "c"),
            (Tuning.of(a=-1), "a"), (Tuning.of(e=0, c=3, d=0, a=0), "a"), (Tuning.of(a=0, b=0, c=0), "a"),
        ]:
            self.assertEqual(caught(lambda: first | other), (Clash, {"name": name}))

    def test_both_tunings_stay(self):
        first, other = Tuning.of(c=1, a=2), Tuning.of(a=2, b=4)
        before = unchanged(first), unchanged(other)
        first | other
        caught(lambda: first | Tuning.of(d=0, a=3))
        self.assertEqual((unchanged(first), unchanged(other)), before)


class WrittenFormTest(unittest.TestCase):
    def test_the_written_form(self):
        self.assertEqual(str(Tuning.of(b=3, a=-1, c=0)), "b=3 a=-1 c=0")
        self.assertEqual(str(Tuning.of(abcdefghijkl=1007)), "abcdefghijkl=1007")
        self.assertEqual(str(Tuning.of()), "")
        self.assertEqual(str(Tuning.of(a=-GREAT)), "a=-1" + "0" * 3999)

    def test_each_reads_what_the_other_gives(self):
        for tuning in [Tuning.of(), Tuning.of(a=0), Tuning.of(b=3, a=-1, c=10 ** 39, d=-(10 ** 40 - 1))]:
            self.assertEqual(Tuning.read(str(tuning)), tuning)
        for text in ["", "a=0", "b=10 a=-100 c=9", "abcdefghijkl=-1", "pitches=1 names=2"]:
            self.assertEqual(str(Tuning.read(text)), text)

    def test_the_pitches_that_are_read(self):
        tuning = Tuning.read("b=10 a=-12")
        self.assertEqual((tuning.names(), tuning.pitches()), (["b", "a"], (10, -12)))

    def test_pitches_of_forty_digits(self):
        digits = "1234567890" * 4
        self.assertEqual(Tuning.read(f"a={digits} b=-{digits}").pitches(), (int(digits), -int(digits)))
        self.assertEqual(Tuning.read("a=" + "9" * 40)["a"], 10 ** 40 - 1)

    def test_longer_pitches(self):
        for size in [41, 42, 4000, 4301, 9000, 100000]:
            for sign in ["", "-"]:
                for text in [f"a={sign}{'9' * size}", f"b=0 a={sign}{'1' * size} c=0", f"a={sign}{'0' * size}"]:
                    self.assertEqual(caught(Tuning.read, text), (BadText, {"text": text}))

    def test_texts_that_are_refused(self):
        for text in [
            "a=1  b=2", " a=1", "a=1 ", " ", "  ", " a=1 b=2 ", "a=+1", "a=-0", "a=007", "a=-007", "a=00", "a=01",
            "a=1 a=1", "a=1 b=2 a=2", "a=1\n", "\na=1", "a=1\nb=2", "\n", "a=1\tb=2", "a=1\r", "a=1 b=2\n",
            "a", "a=", "=1", "=", "a=-", "a=--1", "a=1-", "a=1=2", "a==1", "a =1", "a= 1", "a=1,b=2", "a=1 b",
            "A=1", "a1=1", "abcdefghijklm=1", "-a=1", "a=1_0", "a=1.0", "a=0x1", "a=b", "1=a", "1",
            "a=\u0661", "a=\u00b2", "\u00e4=1", "a=1\u00a0b=2", "a\u00a0=1", "a=\uff11", "a=\u22121",
            "a=1 B=2", "a=1 b=02",
        ]:
            with self.subTest(text):
                self.assertEqual(caught(Tuning.read, text), (BadText, {"text": text}))


if __name__ == "__main__":
    unittest.main()
