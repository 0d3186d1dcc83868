"""Certificates and what checks them (points 1, 2 and 26 to 29)."""

import copy
import itertools
import random
import string
import unittest

from forkbeats.bench import Bench
from forkbeats.certificates import certificate, checks, rises
from forkbeats.errors import Apart, NoStrike, UnknownFork
from forkbeats.facts import Above, AsOften, Between, Highest, InTune, Trio
from forkbeats.tunings import Tuning
from tests.helpers import caught, told
from tests.plain import all_benches, all_rows, nodes, plain_check, plain_rises, reached, replaced, some_fact

TEN = list(string.ascii_lowercase[:10])
SPENT = ("spent",)


class RisesTest(unittest.TestCase):
    def assert_rises(self, count, exact, near):
        """Check the rises of a strike with this count, for limit 0 and for other limits."""
        bench = Bench.of(("a", "b", 7), ("b", "a", count))
        self.assertEqual(rises(bench, 1), exact)
        for limit in (1, 2, 3):
            bench.limit = limit
            self.assertEqual(rises(bench, 1), near)

    def test_each_limit(self):
        most = 10 ** 9
        self.assert_rises(0, [0], [-1, 0, 1])
        self.assert_rises(1, [-1, 1], [-2, -1, 0, 1, 2])
        self.assert_rises(2, [-2, 2], [-3, -2, -1, 1, 2, 3])
        self.assert_rises(3, [-3, 3], [-4, -3, -2, 2, 3, 4])
        self.assert_rises(most, [-most, most], [-most - 1, -most, 1 - most, most - 1, most, most + 1])

    def test_a_new_list(self):
        bench = Bench.of(("a", "b", 2))
        rises(bench, 0).clear()
        self.assertEqual(rises(bench, 0), [-2, 2])

    def test_no_such_strike(self):
        for many in range(3):
            bench = Bench.of(*[("a", "b", 1)] * many, limit=many)
            for index in (-1, many, many + 1, -many - 1):
                self.assertEqual(caught(rises, bench, index), (NoStrike, {"index": index}))


def asked():
    """Return all benches with their fittings and some questions for each."""
    source = random.Random(28)
    found = []
    for bench, rows in zip(all_benches(), all_rows()):
        names = [source.choice(bench.forks()) for _ in range(3)] if bench.forks() else []
        found.append((bench, rows, [some_fact(source, reached(bench, name)) for name in names]))
    return found


class CertificateTest(unittest.TestCase):
    def assert_sound(self, bench, question, tree, holds):
        """Check a certificate with the program and without it."""
        self.assertIs(checks(bench, question, tree, holds=holds), True)
        self.assertTrue(plain_check(bench, question, tree, holds))

    def test_questions_of_all_benches(self):
        for bench, rows, questions in asked():
            for question in questions:
                says = [question(Tuning(bench.forks(), row)) for row in rows]
                for holds in (True, False):
                    tree = certificate(bench, question, holds=holds)
                    self.assertIs(tree is None, (not holds) in says)
                    if tree is not None:
                        self.assert_sound(bench, question, tree, holds)

    def test_no_question(self):
        for bench, rows in zip(all_benches(), all_rows()):
            for holds in (True, False):
                tree = certificate(bench, None, holds=holds)
                self.assertIs(tree is None, len(rows) > 0)
                if tree is not None:
                    self.assert_sound(bench, None, tree, holds)
                    self.assert_sound(bench, None, tree, not holds)
                    self.assertNotIn("told", [node[0] for node in nodes(tree)])

    def test_the_kinds_of_a_tree(self):
        words = set()
        for bench, _, questions in asked():
            for question in questions + [None]:
                tree = certificate(bench, question)
                for node in nodes(tree) if tree is not None else []:
                    words.add(node[0])
                    self.assertIsInstance(node, tuple)
                    self.assertEqual([type(item) for item in node[1:]], {
                        "split": [int, list], "round": [str, list], "fact": [int, list], "spent": [], "told": [list],
                    }[node[0]])
                    if node[0] in ("fact", "told"):
                        self.assertTrue(all(isinstance(walk, list) for walk in node[-1]))
        self.assertEqual(words, {"split", "round", "fact", "spent", "told"})

    def test_holds_is_true_unless_it_is_passed(self):
        bench = Bench.of(("a", "b", 0), ("b", "c", 0))
        self.assertIsNone(certificate(bench, Between("a", "b", "c")))
        self.assertIsNotNone(certificate(bench, Between("a", "b", "c"), holds=False))
        self.assertIsNotNone(certificate(bench, InTune("a", "c")))
        self.assertIsNone(certificate(bench, InTune("a", "c"), holds=False))

    def test_questions_that_no_strike_decides(self):
        bench = Bench()
        bench.add("a", "b")
        self.assertEqual(certificate(bench, Highest("b")), ("told", []))
        self.assertEqual(certificate(bench, ~Highest("b"), holds=False), ("told", []))
        self.assertIsNone(certificate(bench, ~Highest("b")))
        self.assertIsNone(certificate(bench, None))
        bench.tell(~Highest("a"))
        self.assertEqual(certificate(bench, None), ("fact", 0, []))
        self.assertIsNone(certificate(Bench(), None))

    def test_everything_holds_and_breaks_without_fittings(self):
        bench = Bench.of(("a", "b", 1), ("b", "c", 1), ("c", "a", 1), limit=0)
        for holds in (True, False):
            for question in (Above("a", "b"), Between("c", "a", "b"), None):
                self.assert_sound(bench, question, certificate(bench, question, holds=holds), holds)

    def test_only_what_the_question_needs(self):
        bench = Bench.of(*[(TEN[at], TEN[at + 1], 10 ** at) for at in range(9)], limit=3)
        tree = certificate(bench, Above("c", "e") | ~Above("c", "e"))
        self.assertLess(len(nodes(tree)), 50)
        bench = Bench.of(*[(TEN[at], TEN[at + 1], 9) for at in range(9)], ("i", "j", 0), limit=3)
        tree = certificate(bench, None)
        self.assert_sound(bench, None, tree, True)
        self.assertLess(len(nodes(tree)), 50)

    def test_ten_forks(self):
        pairs = list(itertools.combinations(TEN, 2))[::2][:20]
        bench = Bench.of(*[(a, b, abs(TEN.index(a) ** 2 - TEN.index(b) ** 2)) for a, b in pairs], limit=3)
        for a, b in pairs[:12]:
            bench.tell(Above(b, a))
        question = Between("a", "e", "j") & Highest("j", *TEN[:9])
        self.assert_sound(bench, question, certificate(bench, question), True)
        self.assertIsNone(certificate(bench, question, holds=False))
        self.assertIsNone(certificate(bench, None))
        bench.undo()
        bench.tell(Above("a", "j"))
        self.assert_sound(bench, None, certificate(bench, None), True)

    def test_the_lists_of_a_tree_are_its_own(self):
        kinds = set()
        for bench, _, questions in asked()[::3]:
            for question in questions:
                first = certificate(bench, question)
                if first is None:
                    continue
                lists = [node[-1] for node in nodes(first) if len(node) > 1]
                lists += [walk for node in nodes(first) if node[0] in ("fact", "told") for walk in node[-1]]
                self.assertEqual(len({id(part) for part in lists}), len(lists))
                kinds |= {node[0] for node in nodes(first)}
                before = copy.deepcopy(first)
                for part in lists:
                    part.clear()
                self.assertEqual(certificate(bench, question), before)
        self.assertEqual(kinds, {"split", "round", "fact", "spent", "told"})


class ErrorsTest(unittest.TestCase):
    def test_the_question(self):
        bench = Bench.of(("a", "b", 1), ("c", "d", 1), ("b", "a", 5))
        for question, error in (
            (Above("a", "z"), (UnknownFork, {"name": "z"})),
            (Above("z", "y"), (UnknownFork, {"name": "z"})),
            (Between("a", "c", "z"), (UnknownFork, {"name": "z"})),
            (Highest("a", "c", "b", "d"), (Apart, {"first": "a", "second": "c"})),
            (AsOften("d", "c", "a", "b") & Above("a", "b"), (Apart, {"first": "d", "second": "a"})),
        ):
            for holds in (True, False):
                self.assertEqual(caught(certificate, bench, question, holds=holds), error)
                for tree in (SPENT, ("split", 0, []), ("told", [])):
                    self.assertEqual(caught(checks, bench, question, tree, holds=holds), error)

    def test_words_that_are_no_names_of_forks(self):
        self.assertEqual(caught(certificate, Bench(), Highest("above")), (UnknownFork, {"name": "above"}))
        self.assertEqual(caught(checks, Bench(), Highest("not"), SPENT), (UnknownFork, {"name": "not"}))


class ChecksTest(unittest.TestCase):
    """Trees of one bench: two strikes a b that cannot both be right, and one on to c."""

    def setUp(self):
        self.bench = Bench.of(("a", "b", 1), ("b", "a", 2), ("b", "c", 0))
        self.bench.tell(Above("a", "b"))

    def assert_checks(self, expected, question, tree, holds=True):
        """Check what is said of the tree, and that a plain check says the same."""
        self.assertIs(checks(self.bench, question, tree, holds=holds), expected)
        self.assertIs(plain_check(self.bench, question, tree, holds), expected)

    def both(self, *leaves):
        """Return a tree that decides the strikes 0 and 1, with the leaves for -1 -2, -1 2, 1 -2 and 1 2."""
        return ("split", 0, [("split", 1, list(leaves[:2])), ("split", 1, list(leaves[2:]))])

    def test_rounds(self):
        right = ("round", "a", [0, 1])
        self.assert_checks(True, None, self.both(right, right, right, right))
        for start, walk in (
            ("b", [0, 1]), ("b", [1, 0]), ("a", [1, 0]), ("a", [0, 1, 0, 1]), ("a", [0, 0, 0, 1]),
            ("a", [1, 1, 0, 0, 1, 0]),
        ):
            good = ("round", start, walk)
            self.assert_checks(True, None, self.both(good, right, right, good))
            self.assert_checks(True, Above("a", "b"), self.both(good, right, right, good))
        for start, walk in (
            ("a", []), ("a", [0]), ("a", [0, 0]), ("a", [0, 1, 1, 0]), ("c", [0, 1]), ("z", [0, 1]), ("", []),
            ("a", [0, 1, 2]), ("a", [0, 2]), ("a", [0, 1, 3]), ("a", [0, -2]), ("a", [-3, 1]), ("a", [0, 1, 0]),
            ("c", [2, 2]), ("z", []), ("a", [0, 1, 10 ** 30]), ("b", [2, 2, 0, 1]),
        ):
            wrong = ("round", start, walk)
            self.assert_checks(False, None, self.both(wrong, right, right, right))
            self.assert_checks(False, None, self.both(right, right, right, wrong))

    def test_a_round_that_closes(self):
        bench = Bench.of(("a", "b", 2), ("a", "b", 2))
        tree = self.both(*[("round", "a", [0, 1])] * 4)
        self.assertIs(checks(bench, None, tree), False)

    def test_facts(self):
        ring = ("round", "a", [0, 1])
        up = ("fact", 0, [[0]])
        self.assert_checks(True, None, ("split", 0, [("split", 1, [ring, ring]), up]))
        self.assert_checks(True, None, ("split", 0, [("split", 1, [ring, ring]), ("split", 1, [up, ring])]))
        self.assert_checks(True, None, self.both(ring, ring, ("fact", 0, [[1, 1, 0]]), ring))
        for leaf in (
            ("fact", 0, []), ("fact", 0, [[]]), ("fact", 0, [[0], [0]]), ("fact", 0, [[0, 0]]), ("fact", 0, [[1]]),
            ("fact", 0, [[0, 2]]), ("fact", 1, [[0]]), ("fact", -1, [[0]]), ("fact", 12, [[0]]),
            ("fact", 10 ** 30, [[0]]), ("fact", 0, [[-3]]), ("fact", 0, [[3]]),
        ):
            self.assert_checks(False, None, ("split", 0, [("split", 1, [ring, ring]), leaf]))
        # With the rise -1 of the first strike the fact holds.
        self.assert_checks(False, None, ("split", 0, [up, up]))

    def test_the_number_of_a_fact(self):
        self.bench.tell(Above("b", "a"))
        self.assert_checks(True, None, ("split", 0, [("fact", 1, [[0]]), ("fact", 0, [[0]])]))
        self.assert_checks(False, None, ("split", 0, [("fact", -1, [[0]]), ("fact", -2, [[0]])]))
        self.assert_checks(False, None, ("split", 0, [("fact", 0, [[0]]), ("fact", 1, [[0]])]))

    def test_a_fact_about_one_fork(self):
        self.bench.tell(~Highest("c"))
        self.assert_checks(True, None, ("fact", 1, []))
        self.assert_checks(False, None, ("fact", 1, [[]]))
        self.assert_checks(False, None, ("fact", 0, []))
        self.assert_checks(True, Highest("c"), ("told", []))
        self.assert_checks(False, Highest("c"), ("told", [[]]))
        self.assert_checks(False, Highest("c"), ("told", []), holds=False)

    def test_told(self):
        up = ("told", [[0]])
        self.assert_checks(False, Above("b", "a"), ("split", 0, [up, up]))
        for holds in (True, False):
            question = Above("b", "a") if holds else Above("a", "b")
            tree = ("split", 0, [("fact", 0, [[0]]), ("told", [[0]])])
            self.assert_checks(False, question, tree, holds)
        question = ~Above("a", "b") & ~Above("b", "a")
        self.assert_checks(True, question, ("split", 0, [up, up]), holds=False)
        self.assert_checks(False, question, ("split", 0, [up, up]), holds=True)
        self.assert_checks(True, ~question, ("split", 0, [up, up]), holds=True)
        self.assert_checks(False, None, ("split", 0, [up, up]))
        self.assert_checks(False, None, ("told", []))

    def test_the_walks_of_a_question(self):
        question = InTune("b", "c")
        for walk in ([2], [2, 2, 2]):
            self.assert_checks(True, question, ("split", 2, [("told", [walk])]))
        for walks in ([], [[]], [[2], [2]], [[2, 2]], [[0]], [[-1]], [[3]], [[2, 0]], [[1, 1, 2]]):
            self.assert_checks(False, question, ("split", 2, [("told", walks)]))
        question = ~Between("a", "c", "b")
        tree = ("split", 2, [("split", 0, [("told", [[0, 2], [0]]), ("told", [[0, 0, 0, 2], [0, 2, 2]])])])
        self.assert_checks(True, question, tree)
        tree = ("split", 2, [("split", 0, [("told", [[0], [0, 2]]), ("told", [[0, 2], [0]])])])
        self.assert_checks(False, question, tree)

    def test_walks_over_strikes_that_are_not_decided(self):
        for leaf in (("round", "a", [0, 1]), ("fact", 0, [[0]]), ("told", [[0]]), ("fact", 0, [[1]])):
            self.assert_checks(False, ~Above("a", "b"), leaf)
            self.assert_checks(False, ~Above("a", "b"), ("split", 2, [leaf]))

    def test_splits(self):
        ring = ("round", "a", [0, 1])
        inner = ("split", 1, [ring, ring])
        self.assert_checks(True, None, ("split", 0, [inner, inner]))
        self.assert_checks(True, None, ("split", 2, [("split", 0, [inner, inner])]))
        for branches in ([], [inner], [inner, inner, inner], [inner, ("split", 1, [ring])],
                         [inner, ("split", 1, [ring, ring, ring])], [inner, SPENT]):
            self.assert_checks(False, None, ("split", 0, branches))
        for index in (-1, -2, -3, 3, 4, 10 ** 30):
            self.assert_checks(False, None, ("split", index, [inner, inner]))
            self.assert_checks(False, None, ("split", 0, [inner, ("split", index, [ring, ring])]))
            self.assert_checks(False, None, ("split", index, [inner]))
            self.assert_checks(False, None, ("split", index, []))
        whole = ("split", 0, [inner, inner])
        self.assert_checks(True, None, ("split", 2, [whole]))
        self.assert_checks(False, None, ("split", -1, [whole]))
        self.assert_checks(False, None, ("split", -2, [whole, whole]))

    def test_a_strike_is_decided_once(self):
        ring = ("round", "a", [0, 1])
        inner = ("split", 1, [ring, ring])
        for index in (0, 1):
            again = ("split", 0, [inner, ("split", 1, [("split", index, [ring, ring]), ring])])
            self.assert_checks(False, None, again)
        self.assert_checks(False, None, ("split", 0, [("split", 0, [inner, inner]), inner]))
        self.assert_checks(False, None, ("split", 2, [("split", 2, [("split", 0, [inner, inner])])]))

    def test_the_order_of_the_branches(self):
        up, down = ("fact", 0, [[0]]), ("told", [[0]])
        self.assert_checks(True, Above("a", "b"), ("split", 0, [down, up]))
        self.assert_checks(False, Above("a", "b"), ("split", 0, [up, down]))

    def test_spent(self):
        self.assert_checks(False, None, SPENT)
        self.assert_checks(False, None, ("split", 2, [SPENT]))
        bench = Bench.of(("a", "b", 0), ("a", "b", 0), limit=1)
        leaf = ("told", [[0]])
        inner = ("split", 1, [SPENT, leaf, SPENT])
        ring = ("split", 1, [("round", "a", [0, 1]), leaf, ("round", "a", [0, 1])])
        self.assertIs(checks(bench, InTune("a", "b"), ("split", 0, [inner, ring, inner])), False)
        tight = ("split", 1, [SPENT, ("round", "b", [0, 1]), SPENT])
        self.assertIs(checks(bench, InTune("a", "b"), ("split", 0, [tight, ring, tight])), True)
        early = ("split", 1, [SPENT, leaf, SPENT])
        self.assertIs(checks(bench, InTune("a", "b"), ("split", 0, [tight, early, tight])), False)
        self.assertIs(checks(bench, InTune("a", "b"), ("split", 0, [SPENT, ring, SPENT])), False)
        bench.limit = 2
        self.assertIs(checks(bench, InTune("a", "b"), ("split", 0, [tight, ring, tight])), False)

    def test_spent_is_more_than_the_limit(self):
        for limit in (1, 2, 3):
            bench = Bench.of(*[("a", "b", 5)] * 4, limit=limit)
            tree = SPENT
            for index in reversed(range(4)):
                tree = ("split", index, [tree] * 6)
            off_branches = self.pruned(bench, tree, {})
            self.assertTrue(plain_check(bench, ~InTune("a", "b"), off_branches))
            self.assertIs(checks(bench, ~InTune("a", "b"), off_branches), True)
            if limit < 3:
                bench.limit = limit + 1
                self.assertIs(checks(bench, ~InTune("a", "b"), off_branches), False)

    def pruned(self, bench, tree, decided):
        """Return a tree with the leaf `spent` where more strikes than the limit are off, and others elsewhere."""
        off = [index for index, rise in decided.items() if abs(rise) != 5]
        if len(off) > bench.limit:
            return SPENT
        if tree == SPENT:
            return ("told", [[0]])
        found = [self.pruned(bench, branch, decided | {tree[1]: rise})
                 for rise, branch in zip(plain_rises(5, bench.limit), tree[2])]
        return ("split", tree[1], found)

    def test_the_tree_stays(self):
        for bench, _, questions in asked()[::10]:
            for question in questions:
                for tree in (certificate(bench, question), certificate(bench, ~question)):
                    if tree is not None:
                        before = copy.deepcopy(tree)
                        checks(bench, question, tree)
                        self.assertEqual(tree, before)


class ChangedTreesTest(unittest.TestCase):
    """Certificates that are changed at one place are judged as a plain check judges them."""

    def changed_list(self, source, things, other):
        """Return the list with an item left out, added or changed, or turned around."""
        at = source.randrange(len(things) + 1)
        return source.choice([
            things[:at] + things[at + 1:], things[:at] + [other] + things[at:], things[::-1],
            things[:at] + [other] + things[at + 1:], [], things + things[::-1] + things,
        ])

    def changed(self, source, bench, node):
        """Return the node with one change."""
        index = source.randrange(-3, len(bench.strikes()) + 2)
        if node[0] == "split":
            return source.choice([
                ("split", index, node[2]), ("split", node[1], self.changed_list(source, node[2], SPENT)), SPENT,
            ])
        if node[0] == "round":
            start = source.choice([*bench.forks(), "above", ""])
            walk = self.changed_list(source, node[2], index)
            return source.choice([("round", start, node[2]), ("round", node[1], walk)])
        if node[0] == "spent":
            return ("told", [])
        walks = node[-1]
        if walks and source.random() < 0.7:
            at = source.randrange(len(walks))
            walks = walks[:at] + [self.changed_list(source, walks[at], index)] + walks[at + 1:]
        else:
            walks = self.changed_list(source, walks, [])
        number = (source.choice([node[1], -1, 0, len(bench.facts())]),) if node[0] == "fact" else ()
        return (node[0], *number, walks)

    def test_one_change(self):
        source = random.Random(29)
        said = {True: 0, False: 0}
        for bench, _, questions in asked():
            for question in [None, *questions]:
                for holds in (True, False):
                    tree = certificate(bench, question, holds=holds)
                    inner = nodes(tree) if tree is not None else []
                    for _ in range(12 if inner else 0):
                        at = source.randrange(len(inner))
                        other = replaced(tree, at, self.changed(source, bench, inner[at]))
                        found = checks(bench, question, other, holds=holds)
                        self.assertIs(found, plain_check(bench, question, other, holds))
                        said[found] += 1
        self.assertGreater(said[True], 300)
        self.assertGreater(said[False], 3000)

    def test_certificates_of_other_questions(self):
        for bench, _, questions in asked()[::3]:
            for first, second in itertools.permutations(questions, 2):
                for holds in (True, False):
                    tree = certificate(bench, first)
                    if tree is not None and len(nodes(tree)) < 1000:
                        self.assertIs(
                            checks(bench, second, tree, holds=holds), plain_check(bench, second, tree, holds))


class NothingChangesTest(unittest.TestCase):
    def test_the_bench_stays(self):
        for bench, _, questions in asked()[::6]:
            bench = bench.twin()
            bench.limit = bench.limit
            bench.undo()
            before = told(bench)
            for question in [None, *questions]:
                tree = certificate(bench, question)
                self.assertEqual(certificate(bench, question), tree)
                checks(bench, question, SPENT)
            for index in range(len(bench.strikes())):
                rises(bench, index)
            self.assertEqual(told(bench), before)

    def test_a_trio_as_a_question(self):
        bench = Bench.of(("a", "b", 1), ("b", "c", 2), ("c", "a", 3))
        question = Trio("c", "a", "b", beats=(3, 2, 1))
        tree = certificate(bench, question)
        self.assertTrue(checks(bench, question, tree))
        self.assertTrue(plain_check(bench, question, tree))


if __name__ == "__main__":
    unittest.main()
