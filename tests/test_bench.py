"""Benches: the four deeds and what a bench tells (points 1, 2 and 13 to 15)."""

import itertools
import string
import unittest

from forkbeats.bench import Bench
from forkbeats.errors import Apart, BadCount, BadLimit, BadName, BadWord, RepeatedFork, TooMany, UnknownFork
from forkbeats.facts import Above, AsOften, Between, Fact, Highest, InTune, MoreOften, Trio
from tests.helpers import caught, told

NO_NAMES = ["", "abcdefghijklm", "A", "aB", "a1", "a b", "\u00e4", "a\n", " a"]
TEN = list(string.ascii_lowercase[:10])
GREAT = 10 ** 3999
MOST = Fact.MOST_COUNT


def with_forks(*names, limit=0):
    """Return a bench with these forks."""
    bench = Bench(limit)
    bench.add(*names)
    return bench


def busy():
    """Return a bench on which every kind of deed is done and one is undone."""
    bench = Bench.of(("c", "a", 4), ("a", "b", 1), ("d", "e", 0), limit=1)
    bench.tell(Above("a", "b"))
    bench.change("limit", 2)
    bench.add("f")
    bench.strike("c", "b", 5)
    bench.undo()
    return bench


def full():
    """Return a bench that holds as many forks, strikes and facts as it may, with one deed undone."""
    bench = with_forks(*TEN)
    for at in range(20):
        bench.strike(TEN[at % 9], TEN[at % 9 + 1], at)
    for _ in range(12):
        bench.tell(Above("a", "b"))
    bench.change("limit", 1)
    bench.undo()
    return bench


class DeedCase(unittest.TestCase):
    def check_refused(self, bench, kind, attributes, act, *args):
        """Check the error of a deed, and that the deed changes nothing, neither history nor the undone deeds."""
        before = told(bench)
        self.assertNotEqual(before[-1], [], "an undone deed must be there to be kept")
        self.assertEqual(caught(act, *args), (kind, attributes))
        self.assertEqual(told(bench), before)


class CreationTest(unittest.TestCase):
    def test_a_new_bench_is_empty(self):
        self.assertEqual(told(Bench()), ([], [], [], 0, 0, [], []))

    def test_each_limit(self):
        for limit in range(4):
            self.assertEqual(told(Bench(limit)), ([], [], [], limit, 0, [], []))
            self.assertEqual(Bench(limit=limit).limit, limit)

    def test_values_that_are_no_limits(self):
        for value in [-1, 4, 5, -2, GREAT, -GREAT]:
            self.assertEqual(caught(Bench, value), (BadLimit, {"value": value}))
            self.assertEqual(caught(Bench, limit=value), (BadLimit, {"value": value}))

    def test_the_bounds_of_the_class(self):
        self.assertEqual(
            (Bench.MOST_FORKS, Bench.MOST_STRIKES, Bench.MOST_FACTS, Bench.MOST_LIMIT), (10, 20, 12, 3))

    def test_benches_share_nothing(self):
        first, second = Bench(), Bench()
        first.add("a", "b")
        first.strike("a", "b", 1)
        first.undo()
        self.assertEqual(told(second), ([], [], [], 0, 0, [], []))


class AddTest(DeedCase):
    def test_forks_in_the_order_of_the_calls(self):
        bench = Bench()
        self.assertIsNone(bench.add("c", "a"))
        self.assertIsNone(bench.add("b"))
        self.assertEqual(bench.forks(), ["c", "a", "b"])
        self.assertEqual(bench.history(), ["add c a", "add b"])

    def test_a_call_without_names_is_a_deed(self):
        bench = Bench()
        self.assertIsNone(bench.add())
        self.assertEqual((bench.forks(), bench.history()), ([], ["add"]))
        bench.add("a")
        bench.add()
        self.assertEqual((bench.forks(), bench.history()), (["a"], ["add", "add a", "add"]))

    def test_ten_forks_in_one_call_and_in_ten(self):
        bench = Bench()
        for name in TEN:
            bench.add(name)
        self.assertEqual(bench.forks(), TEN)
        self.assertEqual(with_forks(*TEN).forks(), TEN)
        bench.add()
        self.assertEqual(bench.history()[-1], "add")

    def test_invalid_names_at_each_place(self):
        for name in NO_NAMES:
            for at in range(3):
                names = ["x", "y", "z"]
                names[at] = name
                bench = busy()
                self.check_refused(bench, BadName, {"name": name}, bench.add, *names)

    def test_names_that_are_on_the_bench(self):
        for name in ["c", "a", "b", "d", "e", "f"]:
            bench = busy()
            self.check_refused(bench, RepeatedFork, {"name": name}, bench.add, name)
            self.check_refused(bench, RepeatedFork, {"name": name}, bench.add, "x", name)

    def test_names_that_stand_earlier_in_the_call(self):
        bench = busy()
        self.check_refused(bench, RepeatedFork, {"name": "x"}, bench.add, "x", "x")
        self.check_refused(bench, RepeatedFork, {"name": "x"}, bench.add, "x", "y", "x", "y")
        self.check_refused(bench, RepeatedFork, {"name": "y"}, bench.add, "x", "y", "y", "x")

    def test_the_first_wrong_name_is_told(self):
        bench = busy()
        self.check_refused(bench, RepeatedFork, {"name": "a"}, bench.add, "x", "a", "X")
        self.check_refused(bench, BadName, {"name": "X"}, bench.add, "x", "X", "a")
        self.check_refused(bench, RepeatedFork, {"name": "x"}, bench.add, "x", "x", "X", "a")
        self.check_refused(bench, RepeatedFork, {"name": "b"}, bench.add, "b", "a")
        self.check_refused(bench, BadName, {"name": "Y"}, bench.add, "Y", "X")

    def test_too_many_forks(self):
        told_error = {"what": "forks", "most": 10}
        bench = busy()
        self.check_refused(bench, TooMany, told_error, bench.add, "p", "q", "r", "s", "t")
        bench.add("p", "q", "r", "s")
        self.assertEqual(len(bench.forks()), 10)
        bench = full()
        self.check_refused(bench, TooMany, told_error, bench.add, "z")
        self.assertEqual(caught(Bench().add, *string.ascii_lowercase[:11]), (TooMany, told_error))
        self.assertEqual(caught(Bench().add, *string.ascii_lowercase), (TooMany, told_error))

    def test_wrong_names_come_before_too_many(self):
        bench = full()
        self.check_refused(bench, RepeatedFork, {"name": "j"}, bench.add, "z", "j")
        self.check_refused(bench, BadName, {"name": "Z"}, bench.add, "z", "Z")
        self.check_refused(bench, RepeatedFork, {"name": "z"}, bench.add, "z", "y", "z")
        letters = list(string.ascii_lowercase)
        self.assertEqual(caught(Bench().add, *letters, "A"), (BadName, {"name": "A"}))
        self.assertEqual(caught(Bench().add, *letters, "q"), (RepeatedFork, {"name": "q"}))


class StrikeTest(DeedCase):
    def test_the_index_of_each_strike(self):
        bench = with_forks("a", "b", "c")
        self.assertEqual([bench.strike("b", "a", 4), bench.strike("c", "a", 0), bench.strike("b", "c", 7)], [0, 1, 2])
        self.assertEqual(bench.strikes(), [("b", "a", 4), ("c", "a", 0), ("b", "c", 7)])
        self.assertEqual(bench.history(), ["add a b c", "strike b a 4", "strike c a 0", "strike b c 7"])

    def test_a_pair_may_be_struck_several_times(self):
        bench = with_forks("a", "b")
        rows = [("a", "b", 4), ("a", "b", 4), ("b", "a", 4), ("a", "b", 5), ("b", "a", 0)]
        self.assertEqual([bench.strike(*row) for row in rows], [0, 1, 2, 3, 4])
        self.assertEqual(bench.strikes(), rows)

    def test_the_bounds_of_a_count(self):
        bench = with_forks("a", "b")
        bench.strike("a", "b", 0)
        bench.strike("b", "a", MOST)
        self.assertEqual(bench.strikes(), [("a", "b", 0), ("b", "a", 1000000000)])
        self.assertEqual(bench.history()[-1], "strike b a 1000000000")
        bench = busy()
        for count in [-1, MOST + 1, -GREAT, GREAT]:
            self.check_refused(bench, BadCount, {"count": count}, bench.strike, "a", "b", count)

    def test_unknown_forks(self):
        bench = busy()
        for name in ["x", "g", "ab", *NO_NAMES]:
            self.check_refused(bench, UnknownFork, {"name": name}, bench.strike, name, "a", 1)
            self.check_refused(bench, UnknownFork, {"name": name}, bench.strike, "a", name, 1)
        self.check_refused(bench, UnknownFork, {"name": "x"}, bench.strike, "x", "y", 1)
        self.check_refused(bench, UnknownFork, {"name": "y"}, bench.strike, "y", "x", 1)
        self.check_refused(bench, UnknownFork, {"name": "x"}, bench.strike, "x", "x", 1)
        self.assertEqual(caught(Bench().strike, "a", "b", 0), (UnknownFork, {"name": "a"}))

    def test_a_fork_with_itself(self):
        bench = busy()
        for name in bench.forks():
            self.check_refused(bench, RepeatedFork, {"name": name}, bench.strike, name, name, 0)

    def test_twenty_strikes(self):
        bench = with_forks("a", "b")
        self.assertEqual([bench.strike("a", "b", at) for at in range(20)], list(range(20)))
        bench.add("c")
        bench.undo()
        self.check_refused(bench, TooMany, {"what": "strikes", "most": 20}, bench.strike, "a", "b", 0)
        self.check_refused(bench, TooMany, {"what": "strikes", "most": 20}, bench.strike, "b", "a", 20)

    def test_of_two_faults_the_earlier_one_is_told(self):
        bench = busy()
        self.check_refused(bench, UnknownFork, {"name": "x"}, bench.strike, "x", "a", -1)
        self.check_refused(bench, UnknownFork, {"name": "x"}, bench.strike, "a", "x", -1)
        self.check_refused(bench, UnknownFork, {"name": "x"}, bench.strike, "x", "x", MOST + 1)
        self.check_refused(bench, RepeatedFork, {"name": "a"}, bench.strike, "a", "a", -1)
        bench = full()
        self.check_refused(bench, UnknownFork, {"name": "x"}, bench.strike, "x", "a", 1)
        self.check_refused(bench, UnknownFork, {"name": "X"}, bench.strike, "a", "X", 1)
        self.check_refused(bench, RepeatedFork, {"name": "b"}, bench.strike, "b", "b", 1)
        self.check_refused(bench, BadCount, {"count": -1}, bench.strike, "a", "b", -1)
        self.check_refused(bench, BadCount, {"count": MOST + 1}, bench.strike, "a", "b", MOST + 1)
        self.check_refused(bench, TooMany, {"what": "strikes", "most": 20}, bench.strike, "a", "b", 1)


class TellTest(DeedCase):
    def test_the_index_of_each_fact(self):
        bench = busy()
        self.assertEqual([bench.tell(InTune("b", "a")), bench.tell(~Above("d", "e"))], [1, 2])
        self.assertEqual(bench.facts(), ["above a b", "intune b a", "not (above d e)"])
        self.assertEqual(bench.history()[-2:], ["tell intune b a", "tell not (above d e)"])

    def test_a_fact_may_be_told_again(self):
        bench = Bench.of(("a", "b", 1))
        fact = Above("a", "b")
        self.assertEqual([bench.tell(fact), bench.tell(fact), bench.tell(~fact), bench.tell(Above("a", "b"))],
                         [0, 1, 2, 3])
        self.assertEqual(bench.facts(), ["above a b", "above a b", "not (above a b)", "above a b"])

    def test_facts_that_cannot_hold_may_be_told(self):
        bench = Bench.of(("a", "b", 1))
        bench.tell(InTune("a", "b"))
        bench.tell(Above("a", "b") & Above("b", "a"))
        self.assertEqual(len(bench.facts()), 2)

    def test_a_fact_about_one_fork_without_strikes(self):
        bench = with_forks("a", "b")
        self.assertEqual(bench.tell(Highest("b")), 0)
        self.assertEqual(bench.history(), ["add a b", "tell highest b"])

    def test_forks_that_strikes_join_over_others(self):
        bench = Bench.of(("a", "b", 0), ("c", "d", 1), ("d", "b", 2))
        for names in itertools.permutations("abcd"):
            bench.tell(Highest(*names))
            bench.undo()
            bench.tell(MoreOften(*names))
            bench.undo()
        self.assertEqual(bench.facts(), [])

    def test_unknown_forks(self):
        bench = busy()
        self.check_refused(bench, UnknownFork, {"name": "x"}, bench.tell, Above("x", "a"))
        self.check_refused(bench, UnknownFork, {"name": "x"}, bench.tell, Above("a", "x"))
        self.check_refused(bench, UnknownFork, {"name": "y"}, bench.tell, Between("a", "y", "x"))
        self.check_refused(bench, UnknownFork, {"name": "y"}, bench.tell, Above("a", "b") & Above("y", "x"))
        self.check_refused(bench, UnknownFork, {"name": "z"}, bench.tell, ~(Highest("z") | Highest("x")))
        self.check_refused(bench, UnknownFork, {"name": "x"}, bench.tell, Highest("x"))

    def test_forks_of_different_pieces(self):
        bench = busy()
        for fact, first, second in [
            (Above("a", "d"), "a", "d"), (Above("d", "a"), "d", "a"), (Above("f", "e"), "f", "e"),
            (Highest("a", "b", "c", "e", "d"), "a", "e"), (Highest("e", "d", "f", "a"), "e", "f"),
            (Highest("c", "f", "d"), "c", "f"), (Trio("a", "d", "b", beats=(1, 2, 3)), "a", "d"),
            (AsOften("a", "b", "d", "e"), "a", "d"), (AsOften("d", "e", "b", "a"), "d", "b"),
            (Above("a", "b") & Above("d", "e"), "a", "d"), (~(Above("e", "d") | Above("c", "a")), "e", "c"),
        ]:
            self.check_refused(bench, Apart, {"first": first, "second": second}, bench.tell, fact)

    def test_strikes_join_pieces_whatever_their_counts_are(self):
        bench = Bench.of(("a", "b", 0), ("c", "d", 0))
        self.assertEqual(caught(bench.tell, Above("b", "c")), (Apart, {"first": "b", "second": "c"}))
        bench.strike("d", "a", 0)
        self.assertEqual(bench.tell(Above("b", "c")), 0)
        bench.undo()
        bench.undo()
        self.assertEqual(caught(bench.tell, Above("b", "c")), (Apart, {"first": "b", "second": "c"}))

    def test_twelve_facts(self):
        bench = Bench.of(("a", "b", 1))
        self.assertEqual([bench.tell(Above("a", "b")) for _ in range(12)], list(range(12)))
        bench.add("c")
        bench.undo()
        self.check_refused(bench, TooMany, {"what": "facts", "most": 12}, bench.tell, Above("a", "b"))
        self.check_refused(bench, TooMany, {"what": "facts", "most": 12}, bench.tell, Highest("a"))

    def test_of_two_faults_the_earlier_one_is_told(self):
        bench = busy()
        self.check_refused(bench, UnknownFork, {"name": "x"}, bench.tell, Highest("a", "d", "x"))
        bench = with_forks("a", "b", "c")
        bench.strike("a", "b", 1)
        for _ in range(12):
            bench.tell(Above("a", "b"))
        bench.change("limit", 1)
        bench.undo()
        self.check_refused(bench, UnknownFork, {"name": "x"}, bench.tell, Above("a", "x"))
        self.check_refused(bench, UnknownFork, {"name": "x"}, bench.tell, Highest("c", "a", "x"))
        self.check_refused(bench, Apart, {"first": "a", "second": "c"}, bench.tell, Above("a", "c"))
        self.check_refused(bench, TooMany, {"what": "facts", "most": 12}, bench.tell, Above("a", "b"))


class ChangeTest(DeedCase):
    def test_each_limit(self):
        bench = Bench()
        for limit in [1, 3, 2, 0]:
            self.assertIsNone(bench.change("limit", limit))
            self.assertEqual(bench.limit, limit)
        self.assertEqual(bench.history(), ["limit 1", "limit 3", "limit 2", "limit 0"])

    def test_the_present_limit_is_a_deed_too(self):
        bench = Bench(2)
        bench.change("limit", 2)
        bench.limit = 2
        self.assertEqual((bench.limit, bench.history()), (2, ["limit 2", "limit 2"]))
        self.assertEqual([bench.undo(), bench.undo(), bench.limit], ["limit 2", "limit 2", 2])

    def test_the_property_is_assigned(self):
        bench = Bench()
        for limit in [3, 1, 0, 2]:
            bench.limit = limit
            self.assertEqual(bench.limit, limit)
        self.assertEqual(bench.history(), ["limit 3", "limit 1", "limit 0", "limit 2"])
        bench.undo()
        self.assertEqual(bench.limit, 0)

    def test_values_that_are_no_limits(self):
        bench = busy()
        for value in [-1, 4, 5, GREAT, -GREAT]:
            self.check_refused(bench, BadLimit, {"value": value}, bench.change, "limit", value)
            self.check_refused(bench, BadLimit, {"value": value}, setattr, bench, "limit", value)

    def test_other_words(self):
        bench = busy()
        for word in ["", "Limit", "limits", "LIMIT", "limit ", " limit", "lim", "count", "forks", "rounds", "limit\n"]:
            self.check_refused(bench, BadWord, {"word": word}, bench.change, word, 1)

    def test_the_word_comes_before_the_value(self):
        bench = busy()
        for value in [-1, 4]:
            self.check_refused(bench, BadWord, {"word": "most"}, bench.change, "most", value)


class TellingTest(unittest.TestCase):
    def test_what_a_bench_tells(self):
        self.assertEqual(told(busy()), (
            ["c", "a", "b", "d", "e", "f"],
            [("c", "a", 4), ("a", "b", 1), ("d", "e", 0)],
            ["above a b"],
            2,
            0,
            ["add c", "add a", "strike c a 4", "add b", "strike a b 1", "add d", "add e", "strike d e 0",
             "tell above a b", "limit 2", "add f"],
            ["strike c b 5"],
        ))

    def test_the_kinds_of_what_a_bench_tells(self):
        bench = busy()
        for rows in [bench.forks(), bench.strikes(), bench.facts(), bench.history()]:
            self.assertIs(type(rows), list)
        self.assertEqual([type(row) for row in bench.strikes()], [tuple] * 3)
        self.assertEqual([type(text) for text in bench.facts() + bench.history()], [str] * 12)

    def test_facts_are_told_in_their_written_forms(self):
        bench = Bench.of(("a", "b", 1), ("b", "c", 2))
        bench.tell(Trio("b", "a", "c", beats=(5, 3, 2)))
        bench.tell(Above("a", "b") | ~InTune("c", "a"))
        self.assertEqual(bench.facts(), ["trio b a c 2 3 5", "either (above a b) (not (intune c a))"])
        self.assertEqual(bench.history()[-2:],
                         ["tell trio b a c 2 3 5", "tell either (above a b) (not (intune c a))"])
        self.assertEqual([str(fact) for fact in bench.told()], bench.facts())

    def test_rounds(self):
        bench = Bench()
        self.assertEqual(bench.rounds, 0)
        bench.add("a", "b", "c", "d", "e")
        self.assertEqual(bench.rounds, 0)
        found = []
        for a, b in ["ab", "cd", "bc", "da", "ab", "ba", "ac", "de", "ed"]:
            bench.strike(a, b, 0)
            found.append(bench.rounds)
        self.assertEqual(found, [0, 0, 0, 1, 2, 3, 4, 4, 5])
        bench.undo()
        self.assertEqual(bench.rounds, 4)
        self.assertEqual(full().rounds, 11)

    def test_rounds_cannot_be_assigned(self):
        with self.assertRaises(AttributeError):
            Bench().rounds = 1

    def test_the_lists_that_are_returned_are_new(self):
        bench = busy()
        before = told(bench)
        for rows in [bench.forks(), bench.strikes(), bench.facts(), bench.history(), bench.told()]:
            rows.reverse()
            rows.append("x")
            rows[0] = "y"
        self.assertEqual(told(bench), before)
        for rows in [bench.forks(), bench.strikes(), bench.facts(), bench.history(), bench.told()]:
            rows.clear()
        self.assertEqual(told(bench), before)

    def test_what_was_returned_does_not_change_later(self):
        bench = busy()
        kept = bench.forks(), bench.strikes(), bench.facts(), bench.history()
        copies = [list(rows) for rows in kept]
        bench.add("x")
        bench.strike("a", "x", 3)
        bench.tell(Above("x", "a"))
        self.assertEqual(list(kept), copies)
        bench.undo()
        bench.undo()
        bench.undo()
        bench.undo()
        self.assertEqual(list(kept), copies)

    def test_the_facts_that_are_passed_in_stay(self):
        fact = Highest("a", "b") & Trio("a", "b", "c", beats=(3, 1, 2))
        before = str(fact), fact.forks(), fact.depth
        bench = Bench.of(("a", "b", 1), ("b", "c", 2))
        bench.tell(fact)
        fact.forks().clear()
        self.assertEqual((str(fact), fact.forks(), fact.depth), before)
        self.assertEqual(bench.facts(), [before[0]])

    def test_the_lists_that_are_passed_in_are_copied(self):
        names, rows = ["a", "b"], [("a", "b", 1), ("b", "c", 2)]
        bench = with_forks(*names)
        names.append("c")
        self.assertEqual(bench.forks(), ["a", "b"])
        bench = Bench.of(*rows)
        rows.clear()
        self.assertEqual(bench.strikes(), [("a", "b", 1), ("b", "c", 2)])


if __name__ == "__main__":
    unittest.main()
