"""Forks that drift as a group (points 1, 2 and 41)."""

import itertools
import random
import unittest

from forkbeats.bench import Bench
from forkbeats.drift import drifts
from forkbeats.errors import Apart, BadCount, BadLimit, RepeatedFork, UnknownFork
from forkbeats.facts import Above, Fact
from tests.helpers import caught, told
from tests.plain import all_benches, all_rows, reached

MOST = Fact.MOST_COUNT


def plain_drifts(bench, rows, group, later, most):
    """Return the amounts with their first rows, by trying each amount with each row."""
    names = bench.forks()
    found = []
    for amount in range(-most, most + 1):
        for row in rows:
            raised = {name: pitch + (amount if name in group else 0) for name, pitch in zip(names, row)}
            if all(abs(raised[a] - raised[b]) == count for a, b, count in later):
                found.append((amount, row))
                break
    return found


def chain(limit=0):
    """Return a bench with three forks in a row."""
    return Bench.of(("a", "b", 3), ("b", "c", 1), limit=limit)


class DriftsTest(unittest.TestCase):
    def test_one_fork(self):
        bench = Bench.of(("a", "b", 3))
        self.assertEqual(drifts(bench, ["b"], [("b", "a", 5)], most=4), [(-2, (0, -3)), (2, (0, 3))])
        self.assertEqual(drifts(bench, ["a"], [("b", "a", 5)], most=4), [(-2, (0, 3)), (2, (0, -3))])
        self.assertEqual(drifts(bench, ["a"], [("a", "b", 3)]), [(-6, (0, -3)), (0, (0, -3)), (6, (0, 3))])
        self.assertEqual(drifts(bench, ["a"], [("a", "b", 0)]), [(-3, (0, -3)), (3, (0, 3))])

    def test_twelve_is_the_greatest_amount_unless_another_is_passed(self):
        bench = Bench.of(("a", "b", 0))
        for count in range(11, 14):
            found = drifts(bench, ["a"], [("a", "b", count)])
            self.assertEqual(found, [(-count, (0, 0)), (count, (0, 0))] if count < 13 else [])
        self.assertEqual(len(drifts(bench, ["a"], [])), 25)
        self.assertEqual(drifts(bench, ["a"], [("a", "b", 100)], most=100), [(-100, (0, 0)), (100, (0, 0))])
        self.assertEqual(drifts(bench, ["a"], [("a", "b", 100)], most=99), [])
        self.assertEqual(drifts(bench, ["a"], [("a", "b", 0)], most=0), [(0, (0, 0))])

    def test_no_later_strikes(self):
        for group in ([], ["a"], ["a", "b", "c"]):
            self.assertEqual(drifts(chain(), group, [], most=2), [(at, (0, -3, -4)) for at in range(-2, 3)])

    def test_no_fork_drifts_and_all_forks_drift(self):
        for group in ([], ["c", "b", "a"]):
            self.assertEqual(
                drifts(chain(), group, [("a", "c", 2)], most=1), [(at, (0, -3, -2)) for at in range(-1, 2)])
            self.assertEqual(drifts(chain(), group, [("a", "c", 3)], most=1), [])

    def test_several_later_strikes(self):
        self.assertEqual(drifts(chain(), ["b"], [("a", "b", 5), ("b", "c", 3)]), [(-2, (0, -3, -2)), (2, (0, 3, 2))])
        self.assertEqual(drifts(chain(), ["b"], [("a", "b", 5), ("a", "b", 5)]), [
            (-8, (0, 3, 2)), (-2, (0, -3, -4)), (2, (0, 3, 2)), (8, (0, -3, -4))])
        self.assertEqual(drifts(chain(), ["b"], [("a", "b", 5), ("b", "a", 4)]), [])

    def test_repeated_names_have_no_effect(self):
        for later in ([], [("a", "b", 5)], [("c", "a", 2)]):
            self.assertEqual(
                drifts(chain(), ["b", "b", "c", "b", "c"], later), drifts(chain(), ["b", "c"], later))

    def test_the_limit_of_the_bench(self):
        self.assertEqual(drifts(Bench.of(("a", "b", 3), limit=1), ["b"], [("b", "a", 0)]), [
            (-4, (0, 4)), (-3, (0, 3)), (-2, (0, 2)), (2, (0, -2)), (3, (0, -3)), (4, (0, -4))])

    def test_facts_of_the_bench(self):
        bench = chain()
        bench.tell(Above("b", "a"))
        self.assertEqual(drifts(bench, ["b"], [("b", "a", 5)]), [(-8, (0, 3, 2)), (2, (0, 3, 2))])

    def test_later_strikes_may_be_many_and_are_not_recorded(self):
        bench = chain()
        later = [("a", "b", 3)] * 40
        self.assertEqual(drifts(bench, ["c"], later, most=0), [(0, (0, -3, -4))])
        self.assertEqual(len(bench.strikes()), 2)

    def test_no_fitting(self):
        bench = Bench.of(("a", "b", 3), ("b", "a", 9))
        self.assertEqual(drifts(bench, ["a"], [("a", "b", 3)]), [])
        self.assertEqual(drifts(bench, [], []), [])

    def test_small_benches(self):
        self.assertEqual(drifts(Bench(), [], [], most=1), [(-1, ()), (0, ()), (1, ())])
        bench = Bench()
        bench.add("a", "b")
        self.assertEqual(drifts(bench, ["b"], [], most=1), [(-1, (0, 0)), (0, (0, 0)), (1, (0, 0))])

    def test_all_benches(self):
        source = random.Random(41)
        for bench, rows in zip(all_benches(), all_rows()):
            names = bench.forks()
            for size in range(len(names) + 1):
                group = source.sample(names, size)
                pairs = [(a, b) for a, b in itertools.permutations(names, 2) if b in reached(bench, a)]
                pairs = source.sample(pairs, min(len(pairs), source.randrange(4)))
                later = [(a, b, source.randrange(6)) for a, b in pairs]
                most = source.choice([0, 1, 5, 12])
                expected = plain_drifts(bench, rows, group, later, most)
                self.assertEqual(drifts(bench, group, later, most=most), expected)

    def test_the_kinds_of_the_answer(self):
        found = drifts(chain(), ["b"], [("b", "a", 5)])
        self.assertEqual([type(part) for part in (found, found[0], found[0][1])], [list, tuple, tuple])


class ErrorsTest(unittest.TestCase):
    def setUp(self):
        self.bench = Bench.of(("a", "b", 3), ("c", "d", 1))
        self.bench.add("e")

    def assert_error(self, error, group, later, **more):
        """Check the error, also for a bench without fittings, and that nothing changes."""
        for bench in (self.bench, self.bench.twin()):
            before = told(bench)
            group, later = list(group), list(later)
            self.assertEqual(caught(drifts, bench, group, later, **more), error)
            self.assertEqual(told(bench), before)
            self.bench.strike("a", "b", 9)

    def test_the_group(self):
        self.assert_error((UnknownFork, {"name": "z"}), ["a", "z", "y"], [("x", "a", 1)], most=-1)
        self.assert_error((UnknownFork, {"name": ""}), ["", "z"], [])
        self.assert_error((UnknownFork, {"name": "not"}), ["a", "a", "not"], [("a", "a", -1)])

    def test_each_error_of_a_later_strike(self):
        self.assert_error((UnknownFork, {"name": "x"}), ["a"], [("x", "y", -1)], most=-1)
        self.assert_error((UnknownFork, {"name": "y"}), ["a"], [("a", "y", -1)], most=-1)
        self.assert_error((UnknownFork, {"name": "x"}), ["a"], [("x", "x", -1)], most=-1)
        self.assert_error((RepeatedFork, {"name": "b"}), ["a"], [("b", "b", -1)], most=-1)
        self.assert_error((BadCount, {"count": -1}), ["a"], [("b", "c", -1)], most=-1)
        self.assert_error((BadCount, {"count": MOST + 1}), ["a"], [("b", "a", MOST + 1)], most=-1)
        self.assert_error((Apart, {"first": "b", "second": "c"}), ["a"], [("b", "c", 1)], most=-1)
        self.assert_error((Apart, {"first": "e", "second": "a"}), [], [("e", "a", MOST)], most=101)

    def test_strike_by_strike(self):
        good = ("a", "b", 0)
        self.assert_error((Apart, {"first": "b", "second": "c"}), [], [good, ("b", "c", 1), ("x", "a", 1)])
        self.assert_error((BadCount, {"count": -5}), [], [good, good, ("b", "a", -5), ("b", "c", 1)])
        self.assert_error((RepeatedFork, {"name": "c"}), [], [("c", "c", 1), ("a", "b", -1)])
        self.assert_error((UnknownFork, {"name": "q"}), [], [("d", "q", 1), ("b", "c", 1)])

    def test_later_strikes_do_not_join_pieces(self):
        self.assert_error((Apart, {"first": "a", "second": "c"}), [], [("a", "b", 3), ("a", "c", 1), ("c", "b", 1)])

    def test_the_greatest_amount(self):
        for most in (-1, 101, -10 ** 20, 10 ** 20):
            self.assert_error((BadLimit, {"value": most}), ["a"], [("a", "b", 3)], most=most)
        for most in (0, 100):
            self.assertEqual(len(drifts(Bench(), [], [], most=most)), 2 * most + 1)

    def test_nothing_changes(self):
        bench = Bench.of(("a", "b", 3))
        bench.undo()
        bench.strike("b", "a", 2)
        bench.undo()
        group, later = ["b", "b"], [("a", "b", 2)]
        bench.redo()
        before = told(bench)
        drifts(bench, group, later).append(1)
        self.assertEqual((told(bench), group, later), (before, ["b", "b"], [("a", "b", 2)]))


if __name__ == "__main__":
    unittest.main()
