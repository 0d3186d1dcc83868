"""Desks and tables (points 1, 2 and 42 to 44)."""

import unittest

from forkbeats.bench import Bench
from forkbeats.desk import Desk, table
from forkbeats.errors import (
    Apart, BadCount, BadLimit, BadName, BadText, LineError, NoFitting, NothingToRedo, NothingToUndo, RepeatedFork,
    TooMany, UnknownFork,
)
from tests.helpers import told

FORMS = ["add x", "strike a b 4", "tell above a b", "limit 2", "undo", "redo", "count", "ask above a b", "beats a b"]


def worked(*lines):
    """Return a desk at which these lines were carried out."""
    desk = Desk()
    desk.run(*lines)
    return desk


def busy():
    """Return a desk with deeds and undone deeds."""
    return worked("add a b c d", "strike a b 4", "strike b c 1", "tell above a b", "limit 1", "add e", "strike d e 0",
                  "undo", "undo")


class LinesTest(unittest.TestCase):
    def test_add(self):
        self.assertEqual(Desk().run("add b", "add a c", "add i h g f e d j"), ["added 1", "added 3", "added 10"])
        desk = worked("add b", "add a c")
        self.assertEqual(desk.bench.forks(), ["b", "a", "c"])
        self.assertEqual(desk.bench.history(), ["add b", "add a c"])

    def test_strike(self):
        desk = worked("add a b")
        self.assertEqual(
            desk.run("strike a b 4", "strike b a 0", "strike a b 1000000000"), ["strike 0", "strike 1", "strike 2"])
        self.assertEqual(desk.bench.strikes(), [("a", "b", 4), ("b", "a", 0), ("a", "b", 1000000000)])

    def test_tell(self):
        desk = worked("add a b", "strike a b 4")
        self.assertEqual(desk.run("tell above a b", "tell not (both (intune a b) (highest b a))"), ["fact 0", "fact 1"])
        self.assertEqual(desk.bench.facts(), ["above a b", "not (both (intune a b) (highest b a))"])

    def test_limit(self):
        desk = Desk()
        for value in (3, 0, 0, 2, 1):
            self.assertEqual(desk.run(f"limit {value}"), [f"limit {value}"])
            self.assertEqual(desk.bench.limit, value)
        self.assertEqual(desk.bench.history(), ["limit 3", "limit 0", "limit 0", "limit 2", "limit 1"])

    def test_undo_and_redo(self):
        desk = worked("add a b", "strike a b 4", "tell above a b", "limit 2")
        self.assertEqual(desk.run("undo", "undo", "undo", "redo", "undo", "undo"), [
            "undone limit 2", "undone tell above a b", "undone strike a b 4", "redone strike a b 4",
            "undone strike a b 4", "undone add a b"])
        self.assertEqual(desk.run("redo", "redo", "redo", "redo"), [
            "redone add a b", "redone strike a b 4", "redone tell above a b", "redone limit 2"])

    def test_count(self):
        self.assertEqual(Desk().run("count"), ["count 1"])
        desk = worked("add a b c", "strike a b 1", "strike b c 2")
        self.assertEqual(desk.run("count", "tell above a b", "count", "tell above b a", "count"),
                         ["count 4", "fact 0", "count 2", "fact 1", "count 0"])

    def test_ask(self):
        desk = worked("add a b c", "strike a b 1", "strike b c 2")
        self.assertEqual(desk.run("ask above a b", "ask intune a b", "ask trio c a b 1 2 3", "ask not (intune a c)"),
                         ["open", "never", "open", "sure"])
        self.assertEqual(desk.run("strike a b 5", "ask above a b"), ["strike 2", "none"])

    def test_beats(self):
        desk = worked("add a b c", "strike a b 1", "strike b c 2", "limit 1")
        self.assertEqual(desk.run("beats a b", "beats c a", "beats b b"), ["beats 0 1 2", "beats 0 1 2 3 4", "beats 0"])

    def test_no_lines(self):
        desk = busy()
        before = told(desk.bench)
        self.assertEqual(desk.run(), [])
        self.assertEqual(told(desk.bench), before)

    def test_asking_changes_nothing(self):
        desk = busy()
        before = told(desk.bench)
        desk.run("count", "ask above a b", "beats a b", "ask not (above c b)")
        self.assertEqual(told(desk.bench), before)

    def test_the_state_goes_on_from_call_to_call(self):
        desk = Desk()
        bench = desk.bench
        self.assertEqual([desk.run(line) for line in ("add a", "add b", "strike a b 2", "undo", "redo")], [
            ["added 1"], ["added 2"], ["strike 0"], ["undone strike a b 2"], ["redone strike a b 2"]])
        self.assertIs(desk.bench, bench)
        bench.add("c")
        self.assertEqual(desk.run("add d"), ["added 4"])

    def test_desks_share_nothing(self):
        first, second = Desk(), Desk()
        first.run("add a")
        self.assertEqual(second.bench.forks(), [])
        self.assertIsInstance(first.bench, Bench)

    def test_names_that_are_words(self):
        desk = Desk()
        self.assertEqual(desk.run(
            "add add undo above", "strike undo add 2", "strike above undo 0", "beats add above",
            "tell above above add", "ask above undo add", "undo"),
            ["added 3", "strike 0", "strike 1", "beats 2", "fact 0", "sure", "undone tell above above add"])


class RefusedTest(unittest.TestCase):
    def assert_refused(self, desk, line, cause, **attributes):
        """Check the error for a line, alone and behind others, and that the desk is then as it was before."""
        bench = desk.bench
        before = told(bench)
        lead = ["count", "undo", "redo", "limit 3", "undo"]
        for lines in ([line], [*lead, line], [line, "add z", line], [*lead, line, "bad line"]):
            with self.assertRaises(LineError) as seen:
                desk.run(*lines)
            self.assertEqual(vars(seen.exception), {"index": lines.index(line), "line": line})
            error = seen.exception.__cause__
            self.assertIs(type(error), cause)
            if attributes:
                self.assertEqual(vars(error), attributes)
            self.assertIs(desk.bench, bench)
            self.assertEqual(told(bench), before)

    def test_errors_of_the_calls(self):
        self.assert_refused(busy(), "add A", BadName, name="A")
        self.assert_refused(busy(), "add x B!", BadName, name="B!")
        self.assert_refused(busy(), "add abcdefghijklm", BadName, name="abcdefghijklm")
        self.assert_refused(busy(), "add x a", RepeatedFork, name="a")
        self.assert_refused(busy(), "add x y x", RepeatedFork, name="x")
        self.assert_refused(busy(), "add e f g h i j k", TooMany, what="forks", most=10)
        self.assert_refused(busy(), "strike a z 4", UnknownFork, name="z")
        self.assert_refused(busy(), "strike A z 4", UnknownFork, name="A")
        self.assert_refused(busy(), "strike a a 4", RepeatedFork, name="a")
        self.assert_refused(busy(), "strike a b 1000000001", BadCount, count=1000000001)
        self.assert_refused(busy(), "strike a b 9999999999", BadCount, count=9999999999)
        self.assert_refused(busy(), "tell above a z", UnknownFork, name="z")
        self.assert_refused(busy(), "tell above a d", Apart, first="a", second="d")
        self.assert_refused(busy(), "limit 4", BadLimit, value=4)
        self.assert_refused(busy(), "limit 9999999999", BadLimit, value=9999999999)
        self.assert_refused(busy(), "ask above z a", UnknownFork, name="z")
        self.assert_refused(busy(), "ask above d a", Apart, first="d", second="a")
        self.assert_refused(busy(), "beats a z", UnknownFork, name="z")
        self.assert_refused(busy(), "beats a d", Apart, first="a", second="d")

    def test_too_many_strikes_and_facts(self):
        desk = worked("add a b", *["strike a b 1"] * 20, *["tell above a b"] * 12)
        self.assert_refused(desk, "strike a b 1", TooMany, what="strikes", most=20)
        self.assert_refused(desk, "tell above a b", TooMany, what="facts", most=12)

    def test_no_fitting(self):
        desk = worked("add a b", "strike a b 1", "strike a b 4")
        self.assert_refused(desk, "beats a b", NoFitting)

    def test_nothing_to_undo_or_redo(self):
        desk = Desk()
        for line, cause in (("undo", NothingToUndo), ("redo", NothingToRedo)):
            with self.assertRaises(LineError) as seen:
                desk.run(line)
            self.assertEqual(vars(seen.exception), {"index": 0, "line": line})
            self.assertIs(type(seen.exception.__cause__), cause)
        with self.assertRaises(LineError) as seen:
            desk.run("add a", "undo", "redo", "redo")
        self.assertEqual(vars(seen.exception), {"index": 3, "line": "redo"})
        self.assertEqual(told(desk.bench), told(Bench()))

    def test_other_forms(self):
        for line in (
            "", " ", "  ", "add", "strike", "tell", "limit", "ask", "beats", "Add x", "ADD x", "sub x", "forks",
            "adds x", "strike a b", "strike a 4", "strike a b 4 4", "strike a b c 4", "limit 1 1", "undo 1",
            "undo undo", "redo a", "count a", "count count", "beats a", "beats a b c", "history", "a", "undo;",
            "above a b", "add\tx", "add,x",
            "tell", "ask", "tell above", "ask above a", "tell above a b c", "ask not above a b", "tell above(a b)",
            "tell trio a b c 3 2 1", "tell highest", "ask (above a b)", "tell Above a b", "ask above a B",
        ):
            self.assert_refused(busy(), line, BadText)

    def test_spaces_and_line_feeds(self):
        for line in FORMS:
            word, _, rest = line.partition(" ")
            refused = [
                " " + line, line + " ", "  " + line, line + "  ", line.replace(" ", "  "), line.replace(" ", "\t"),
                line.replace(" ", "\n"), "\n" + line, word + " ", word + "  " + rest,
            ]
            for wrong in refused:
                if wrong != line:
                    self.assert_refused(busy(), wrong, BadText)
        for line in ("undo", "redo", "count", "limit 2", "strike a b 4", "tell above a b", "ask above a b"):
            self.assert_refused(busy(), line + "\n", BadText)
        self.assert_refused(busy(), "add x\n", BadName, name="x\n")
        self.assert_refused(busy(), "add x\ty", BadName, name="x\ty")
        self.assert_refused(busy(), "beats a b\n", UnknownFork, name="b\n")
        self.assert_refused(busy(), "strike a\n b 4", UnknownFork, name="a\n")
        self.assert_refused(busy(), "strike a  4", BadText)
        self.assert_refused(busy(), "add x  y", BadText)

    def test_numbers(self):
        for number in ("00", "01", "-0", "-1", "+1", "1.0", "1e3", "x", "0x1", "1_0", "10000000000", "00000000001",
                       "9" * 5000, "\u0661", "\u00b2", "1\n", "2-", "(1)"):
            self.assert_refused(busy(), f"strike a b {number}", BadText)
            self.assert_refused(busy(), f"strike z z {number}", BadText)
            self.assert_refused(busy(), f"limit {number}", BadText)
        for digits in range(1, 10):
            self.assertEqual(busy().run("strike a b " + "9" * digits), ["strike 2"])
        self.assertEqual(
            busy().run("strike a b 1000000000", "strike a b 0", "limit 0"), ["strike 2", "strike 3", "limit 0"])
        self.assert_refused(busy(), "limit 10", BadLimit, value=10)

    def test_facts_that_nest_too_deep(self):
        fact = "above a b"
        for _ in range(5):
            fact = f"not ({fact})"
        self.assertEqual(busy().run("ask " + fact, "tell " + fact), ["never", "fact 1"])
        self.assert_refused(busy(), f"tell not ({fact})", BadText)
        self.assert_refused(busy(), "ask " + "not (" * 5000 + "above a b" + ")" * 5000, BadText)

    def test_earlier_lines_are_taken_back(self):
        desk = busy()
        before = told(desk.bench)
        for lines in (
            ["redo", "redo", "redo"], ["undo", "undo", "add q", "strike q a 3", "undo", "undo", "undo", "count 1"],
            ["add q", "limit 3", "tell intune a b", "strike a q 1", "add q"],
        ):
            with self.assertRaises(LineError) as seen:
                desk.run(*lines)
            self.assertEqual(seen.exception.index, len(lines) - 1)
            self.assertEqual(told(desk.bench), before)
        self.assertEqual(desk.run("redo", "redo"), ["redone add e", "redone strike d e 0"])

    def test_a_desk_goes_on_after_an_error(self):
        desk = busy()
        with self.assertRaises(LineError):
            desk.run("add q", "nothing")
        other = busy()
        for lines in (["redo", "undo"], ["add q"], ["undo", "undo", "undo"], ["redo"]):
            self.assertEqual(desk.run(*lines), other.run(*lines))
            self.assertEqual(told(desk.bench), told(other.bench))

    def test_what_was_done_to_the_bench_itself_stays(self):
        desk = busy()
        desk.bench.add("w")
        desk.bench.undo()
        self.assert_refused(desk, "add w a", RepeatedFork, name="a")
        self.assertEqual(desk.run("redo"), ["redone add w"])


class TableTest(unittest.TestCase):
    def test_the_columns(self):
        bench = Bench.of(("a", "abcdefghijkl", 7), ("abcdefghijkl", "bc", 1000000000))
        self.assertEqual(table(bench), [
            "  0 a            abcdefghijkl          7",
            "  1 abcdefghijkl bc           1000000000",
        ])
        self.assertEqual({len(line) for line in table(bench)}, {40})

    def test_indexes_of_two_digits(self):
        lines = table(Bench.of(*[("a", "b", 10 ** (at % 10)) for at in range(20)]))
        self.assertEqual(len(lines), 20)
        for at, line in enumerate(lines):
            self.assertEqual(line, f"{at}".rjust(3) + " a" + " " * 12 + "b" + " " * 12 + str(10 ** (at % 10)).rjust(10))

    def test_no_strikes(self):
        self.assertEqual(table(Bench()), [])
        bench = Bench()
        bench.add("a", "b")
        self.assertEqual(table(bench), [])

    def test_a_new_list(self):
        bench = Bench.of(("a", "b", 0))
        before = told(bench)
        table(bench).clear()
        self.assertEqual(table(bench), ["  0 a            b                     0"])
        self.assertEqual(told(bench), before)

    def test_the_bench_of_a_desk(self):
        self.assertEqual(table(busy().bench), [
            "  0 a            b                     4", "  1 b            c                     1"])


if __name__ == "__main__":
    unittest.main()
