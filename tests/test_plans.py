"""Further strikes that tell shapes apart (points 1, 2 and 34 to 37)."""

import functools
import itertools
import string
import unittest

from forkbeats.bench import Bench
from forkbeats.errors import Apart, NoFitting, UnknownFork
from forkbeats.facts import Above, Highest
from forkbeats.plans import groups, next_pair, settling, strategy
from tests.helpers import caught, told
from tests.plain import all_benches, all_rows, firsts, plain_rows, plain_shapes

TEN = list(string.ascii_lowercase[:10])
NO_FITTING = (NoFitting, {})


def chain(*counts, limit=0):
    """Return a bench with forks in a row."""
    return Bench.of(*[(TEN[at], TEN[at + 1], count) for at, count in enumerate(counts)], limit=limit)


def star(*counts, limit=0):
    """Return a bench whose first fork was struck with all others."""
    return Bench.of(*[("a", TEN[at + 1], count) for at, count in enumerate(counts)], limit=limit)


def pairs_of(bench):
    """Return the pairs in order."""
    return list(itertools.combinations(bench.forks(), 2))


def beats_at(bench, row, pairs):
    """Return the beats that the row gives at the pairs."""
    names = bench.forks()
    return tuple(abs(row[names.index(a)] - row[names.index(b)]) for a, b in pairs)


def plain_groups(bench, rows, pairs):
    """Return the rows divided by their beats at the pairs."""
    lots = {}
    for row in rows:
        lots.setdefault(beats_at(bench, row, pairs), []).append(row)
    return sorted(lots.items())


def plain_settling(bench, rows):
    """Return the first of the shortest lists of pairs that tell all rows apart."""
    pairs = pairs_of(bench)
    for size in range(len(pairs) + 1):
        for chosen in itertools.combinations(pairs, size):
            if len({beats_at(bench, row, chosen) for row in rows}) == len(rows):
                return list(chosen)
    raise AssertionError("all pairs do not tell the shapes apart")


def plain_strategy(bench):
    """Return a function that gives the strategy for some rows, and its depth."""
    pairs = pairs_of(bench)

    @functools.cache
    def best(rows):
        if len(rows) == 1:
            return 0, ("shape", rows[0])
        found = []
        for at, pair in enumerate(pairs):
            lots = plain_groups(bench, rows, [pair])
            if len(lots) > 1:
                trees = [(beats, best(tuple(lot))) for (beats,), lot in lots]
                depth = 1 + max(deep for _, (deep, _) in trees)
                found.append((depth, at, ("strike", *pair, [(beats, tree) for beats, (_, tree) in trees])))
        depth, _, tree = min(found, key=lambda item: item[:2])
        return depth, tree

    return best


@functools.cache
def whole_benches():
    """Return the benches in one piece that have fittings, with their shapes."""
    found = [(bench, plain_shapes(rows)) for bench, rows in zip(all_benches(), all_rows())
             if rows and len(firsts(bench)) < 2]
    more = [chain(1, 1, 2, 4), chain(1, 1, 1, 1), star(1, 2, 2, 0), star(3, 3, 3, 3), chain(2, 1, 2, limit=1),
            chain(1, 2, limit=3), star(4, 4, 9, limit=1)]
    return found + [(bench, plain_shapes(plain_rows(bench))) for bench in more]


class GroupsTest(unittest.TestCase):
    def test_without_pairs(self):
        bench = chain(1, 2)
        self.assertEqual(groups(bench), [((), [(0, -1, -3), (0, -1, 1)])])
        self.assertEqual(groups(Bench()), [((), [()])])

    def test_one_pair(self):
        bench = chain(1, 2)
        self.assertEqual(groups(bench, ("a", "c")), [((1,), [(0, -1, 1)]), ((3,), [(0, -1, -3)])])
        self.assertEqual(groups(bench, ("a", "b")), [((1,), [(0, -1, -3), (0, -1, 1)])])

    def test_the_other_order_and_several_times(self):
        bench = chain(1, 2)
        self.assertEqual(groups(bench, ("c", "a")), groups(bench, ("a", "c")))
        self.assertEqual(groups(bench, ("c", "a"), ("a", "b"), ("a", "c"), ("c", "a")), [
            ((1, 1, 1, 1), [(0, -1, 1)]), ((3, 1, 3, 3), [(0, -1, -3)])])

    def test_ascending_beats_and_the_order_of_the_shapes(self):
        bench = star(1, 2, 10)
        self.assertEqual(groups(bench, ("c", "d"), ("b", "d")), [
            ((8, 9), [(0, -1, -2, -10)]), ((8, 11), [(0, -1, 2, 10)]),
            ((12, 9), [(0, -1, 2, -10)]), ((12, 11), [(0, -1, -2, 10)])])
        self.assertEqual(groups(bench, ("b", "d")), [
            ((9,), [(0, -1, -2, -10), (0, -1, 2, -10)]), ((11,), [(0, -1, -2, 10), (0, -1, 2, 10)])])

    def test_with_a_limit(self):
        self.assertEqual(groups(chain(0, limit=1), ("a", "b")), [((0,), [(0, 0)]), ((1,), [(0, -1)])])

    def test_facts_that_tell_up_from_down(self):
        bench = chain(1, 2)
        bench.tell(Above("b", "a"))
        self.assertEqual(groups(bench, ("a", "c")), [((1,), [(0, 1, -1)]), ((3,), [(0, 1, 3)])])
        bench = chain(1)
        bench.tell(~Highest("a") | Highest("b"))
        self.assertEqual(groups(bench), [((), [(0, -1)])])

    def test_all_benches(self):
        for bench, rows in whole_benches():
            pairs = pairs_of(bench)
            for chosen in ([], pairs[:1], pairs[-2:], pairs[::-1], pairs[1:3] + pairs[1:2]):
                self.assertEqual(groups(bench, *chosen), plain_groups(bench, rows, chosen))
                turned = [pair[::-1] for pair in chosen]
                self.assertEqual(groups(bench, *turned), plain_groups(bench, rows, chosen))

    def test_the_kinds_of_the_answer(self):
        found = groups(chain(1, 2), ("a", "c"))
        self.assertEqual([type(part) for part in (found, found[0], *found[0], found[0][1][0])],
                         [list, tuple, tuple, list, tuple])
        found[0][1].clear()
        found.clear()
        self.assertEqual(len(groups(chain(1, 2), ("a", "c"))), 2)

    def test_the_first_unknown_fork_pair_by_pair(self):
        bench = chain(1, 5)
        for extra in ("d", None):
            if extra:
                bench.add(extra)
            for pairs, name in (
                ([("x", "y")], "x"), ([("a", "y")], "y"), ([("a", "b"), ("b", "z"), ("x", "a")], "z"),
                ([("a", "not"), ("x", "y")], "not"), ([("", "a")], ""),
            ):
                self.assertEqual(caught(groups, bench, *pairs), (UnknownFork, {"name": name}))
        self.assertEqual(caught(groups, Bench(), ("a", "b")), (UnknownFork, {"name": "a"}))


class NextPairTest(unittest.TestCase):
    def test_one_shape(self):
        self.assertIsNone(next_pair(Bench()))
        self.assertIsNone(next_pair(chain(3)))
        self.assertIsNone(next_pair(chain(0, 0)))
        bench = Bench()
        bench.add("a")
        self.assertIsNone(next_pair(bench))
        bench = chain(1, 2)
        bench.tell(Above("a", "b") & Above("b", "c"))
        self.assertIsNone(next_pair(bench))

    def test_the_least_greatest_group(self):
        self.assertEqual(next_pair(chain(1, 2)), ("a", "c", 1))
        self.assertEqual(next_pair(chain(1, 2, 4)), ("a", "d", 1))

    def test_the_first_of_equal_pairs(self):
        self.assertEqual(next_pair(star(1, 2, 4)), ("b", "c", 2))
        self.assertEqual(next_pair(chain(1, limit=1)), ("a", "b", 1))
        bench = Bench()
        bench.add("c", "b", "a")
        bench.strike("a", "b", 1)
        bench.strike("b", "c", 2)
        self.assertEqual(next_pair(bench), ("c", "a", 1))

    def test_all_benches(self):
        for bench, rows in whole_benches():
            found = [(max(len(lot) for _, lot in plain_groups(bench, rows, [pair])), at)
                     for at, pair in enumerate(pairs_of(bench))]
            if len(rows) == 1:
                self.assertIsNone(next_pair(bench))
            else:
                worst, at = min(found)
                self.assertEqual(next_pair(bench), (*pairs_of(bench)[at], worst))


class SettlingTest(unittest.TestCase):
    def test_one_shape(self):
        self.assertEqual(settling(Bench()), [])
        self.assertEqual(settling(chain(3)), [])
        self.assertEqual(settling(chain(0, 0, 0)), [])

    def test_as_few_pairs_as_possible(self):
        self.assertEqual(settling(chain(1, 2)), [("a", "c")])
        self.assertEqual(settling(chain(1, 2, 4)), [("a", "d")])
        self.assertEqual(settling(star(1, 2, 4)), [("b", "c"), ("b", "d")])
        self.assertEqual(settling(chain(1, 1, 1)), [("a", "c"), ("b", "d")])

    def test_all_benches(self):
        for bench, rows in whole_benches():
            found = settling(bench)
            self.assertEqual(found, plain_settling(bench, rows))
            for _, lot in groups(bench, *found):
                self.assertEqual(len(lot), 1)

    def test_many_shapes(self):
        bench = star(1, 3, 9, 27, 81, 243, 729, 2187, 6561)
        self.assertEqual(settling(bench), [("b", name) for name in TEN[2:]])
        bench = chain(1, 1, 1, 1, 1, 1, 1, 1, 1)
        self.assertEqual(settling(bench), [
            ("a", "c"), ("a", "e"), ("a", "g"), ("a", "i"), ("b", "d"), ("b", "f"), ("b", "h"), ("b", "j")])
        bench = chain(*[5 ** at for at in range(7)], limit=1)
        self.assertEqual(len(settling(bench)), 4)
        self.assertEqual({len(lot) for _, lot in groups(bench, *settling(bench))}, {1})

    def test_a_new_list(self):
        bench = chain(1, 2)
        settling(bench).clear()
        self.assertEqual(settling(bench), [("a", "c")])


class StrategyTest(unittest.TestCase):
    def test_one_shape(self):
        self.assertEqual(strategy(Bench()), ("shape", ()))
        self.assertEqual(strategy(chain(3)), ("shape", (0, -3)))
        self.assertEqual(strategy(chain(0, 0)), ("shape", (0, 0, 0)))

    def test_one_strike(self):
        self.assertEqual(strategy(chain(1, 2)), (
            "strike", "a", "c", [(1, ("shape", (0, -1, 1))), (3, ("shape", (0, -1, -3)))]))

    def test_each_node_goes_on_as_is_best_for_its_shapes(self):
        tree = strategy(star(1, 2, 4))
        self.assertEqual(tree[:3], ("strike", "b", "c"))
        self.assertEqual([(beats, branch[:3]) for beats, branch in tree[3]],
                         [(1, ("strike", "b", "d")), (3, ("strike", "b", "d"))])

    def test_all_benches(self):
        for bench, rows in whole_benches():
            if len(rows) < 60:
                self.assertEqual(strategy(bench), plain_strategy(bench)(tuple(rows))[1])

    def depth(self, tree):
        """Return the greatest number of strikes on a path."""
        return 0 if tree[0] == "shape" else 1 + max(self.depth(branch) for _, branch in tree[3])

    def test_many_shapes(self):
        bench = star(1, 3, 9, 27, 81, 243, 729, 2187, 6561)
        tree = strategy(bench)
        self.assertEqual(self.depth(tree), 8)
        self.assertEqual(tree[:3], ("strike", "b", "c"))
        bench = chain(1, 2, 1, 2, 1, 2)
        rows = plain_shapes(plain_rows(bench))
        self.assertEqual((self.depth(strategy(bench)), strategy(bench)), plain_strategy(bench)(tuple(rows)))

    def test_the_kinds_of_the_answer(self):
        tree = strategy(chain(1, 2))
        self.assertEqual([type(part) for part in (tree, tree[3], tree[3][0], tree[3][0][1])],
                         [tuple, list, tuple, tuple])
        tree[3].clear()
        self.assertEqual(len(strategy(chain(1, 2))[3]), 2)


class ErrorsTest(unittest.TestCase):
    def asks(self):
        """Return the calls that need one piece and a fitting."""
        return [groups, lambda bench: groups(bench, ("a", "b"), ("c", "d")), next_pair, settling, strategy]

    def test_several_pieces(self):
        for ask in self.asks():
            bench = Bench.of(("a", "b", 1), ("c", "d", 2))
            self.assertEqual(caught(ask, bench), (Apart, {"first": "a", "second": "c"}))
            bench.strike("a", "b", 7)
            self.assertEqual(caught(ask, bench), (Apart, {"first": "a", "second": "c"}))

    def test_no_fitting(self):
        for ask in self.asks():
            bench = chain(1, 2, 3)
            bench.strike("a", "b", 7)
            self.assertEqual(caught(ask, bench), NO_FITTING)
            bench.limit = 3
            self.assertEqual(caught(ask, bench), NO_FITTING)

    def test_asking_changes_nothing(self):
        for bench, _ in whole_benches()[::5]:
            bench = bench.twin()
            bench.limit = bench.limit
            bench.undo()
            before = told(bench)
            pairs = pairs_of(bench)
            for ask in (lambda asked: groups(asked, *pairs), next_pair, settling, strategy):
                self.assertEqual(ask(bench), ask(bench))
                self.assertEqual(ask(bench), ask(bench.twin()))
            self.assertEqual(told(bench), before)
            self.assertEqual(pairs, pairs_of(bench))


if __name__ == "__main__":
    unittest.main()
