"""Pieces, walks, blocks, cut forks and parts (points 1, 2 and 18 to 20)."""

import functools
import itertools
import random
import string
import unittest

from forkbeats.bench import Bench
from forkbeats.errors import Apart, NoBlock, UnknownFork
from forkbeats.facts import Above
from forkbeats.graph import blocks, cut_forks, part, pieces, walk
from tests.helpers import caught, told

TEN = list(string.ascii_lowercase[:10])
NO_NAMES = ["", "abcdefghijklm", "A", "a1", "a b", "a\n", "ab"]


def drawn(forks, pairs, limit=0):
    """Return a bench with these forks, whose strikes are given as pairs of letters."""
    bench = Bench(limit)
    bench.add(*forks)
    for at, (a, b) in enumerate(pairs):
        bench.strike(a, b, at % 3)
    return bench


def small_benches():
    """Return benches with four forks and all ways to strike up to four pairs in ascending order, turned or not."""
    pairs = ["ab", "ca", "ad", "cb", "bd", "dc"]
    rows = [row for many in range(5) for row in itertools.combinations_with_replacement(pairs, many)]
    return [drawn("bdac", row) for row in rows] + [drawn("cabd", row[::-1]) for row in rows[30:]]


def random_benches():
    """Return benches with 5 to 10 forks and 4 to 20 strikes, always the same ones."""
    source = random.Random(18)
    found = []
    for many in range(200):
        forks = source.sample(TEN, 5 + many % 6)
        # Pairs of near forks make chains of blocks, other pairs make few blocks with many rounds.
        near = [source.sample(forks[at:at + 4], 2) for at in range(len(forks) - 3) for _ in range(3)]
        far = [source.sample(forks, 2) for _ in range(20)]
        pairs = [near, far, near + far][many % 3]
        found.append(drawn(forks, source.sample(pairs, min(4 + many % 17, len(pairs)))))
    return found


@functools.cache
def all_benches():
    """Return the benches on which answers are compared with slower and plainer ones."""
    return small_benches() + random_benches()


def steps_of(bench):
    """Return for each fork the steps from it: the index of a strike and the fork at its other end."""
    rows = list(enumerate(bench.strikes()))
    return {
        fork: [(at, b if fork == a else a) for at, (a, b, _) in rows if fork in (a, b)] for fork in bench.forks()
    }


def reached(bench, a):
    """Return the set of the forks that can be reached from one fork."""
    steps = steps_of(bench)
    found, more = {a}, {a}
    while more:
        more = {other for fork in more for _, other in steps[fork]} - found
        found |= more
    return found


def shortest_walks(bench, a):
    """Return, by the forks that can be reached from a, all walks to them that have as few strikes as possible."""
    steps = steps_of(bench)
    found, rows = {}, [([], a)]
    while rows:
        level = {}
        for row, fork in rows:
            level.setdefault(fork, []).append(row)
        found |= level
        rows = [(row + [at], other) for row, fork in rows for at, other in steps[fork] if other not in found]
    return found


def simple_rounds(bench):
    """Return the simple rounds as sets of strikes."""
    steps, forks = steps_of(bench), bench.forks()
    found = set()

    def follow(start, fork, used, free):
        for at, other in steps[fork]:
            if other == start and used and at not in used:
                found.add(frozenset([*used, at]))
            elif other in free:
                follow(start, other, [*used, at], [name for name in free if name != other])

    for at, start in enumerate(forks):
        # Each round is found from that fork of it which comes first.
        follow(start, start, [], forks[at + 1:])
    return found


@functools.cache
def plain_blocks(bench):
    """Return the blocks as the document says it: those strikes that are in a simple round with one strike."""
    rounds = simple_rounds(bench)
    many = len(bench.strikes())
    mates = [sorted({at}.union(*[ring for ring in rounds if at in ring])) for at in range(many)]
    return [mates[at] for at in range(many) if mates[at][0] == at]


class PiecesTest(unittest.TestCase):
    def test_the_order_of_pieces_and_forks(self):
        self.assertEqual(pieces(drawn("edcba", ["ab", "ce"])), [["e", "c"], ["d"], ["b", "a"]])
        self.assertEqual(pieces(drawn("abcdef", ["fa", "eb", "bd"])), [["a", "f"], ["b", "d", "e"], ["c"]])
        self.assertEqual(pieces(drawn("fadbec", ["ab", "cd", "ef"])), [["f", "e"], ["a", "b"], ["d", "c"]])

    def test_forks_without_strikes(self):
        self.assertEqual(pieces(Bench()), [])
        self.assertEqual(pieces(drawn("cab", [])), [["c"], ["a"], ["b"]])
        self.assertEqual(pieces(drawn("cab", ["ba"])), [["c"], ["a", "b"]])

    def test_one_piece(self):
        self.assertEqual(pieces(drawn("dcba", ["ab", "bc", "cd"])), [["d", "c", "b", "a"]])
        self.assertEqual(pieces(drawn("dcba", ["ab", "cd", "bd"])), [["d", "c", "b", "a"]])
        self.assertEqual(pieces(drawn("ab", ["ab", "ba", "ab"])), [["a", "b"]])
        self.assertEqual(pieces(drawn(TEN, zip(TEN, TEN[1:]))), [TEN])

    def test_counts_do_not_matter(self):
        self.assertEqual(pieces(Bench.of(("a", "b", 0), ("a", "b", 7), ("c", "d", 10 ** 9))), [["a", "b"], ["c", "d"]])

    def test_pieces_that_a_later_strike_joins(self):
        bench = drawn("abcdef", ["ab", "cd", "ef"])
        self.assertEqual(pieces(bench), [["a", "b"], ["c", "d"], ["e", "f"]])
        bench.strike("f", "b", 1)
        self.assertEqual(pieces(bench), [["a", "b", "e", "f"], ["c", "d"]])
        bench.strike("d", "e", 1)
        self.assertEqual(pieces(bench), [list("abcdef")])
        bench.undo()
        bench.undo()
        self.assertEqual(pieces(bench), [["a", "b"], ["c", "d"], ["e", "f"]])

    def test_pieces_as_forks_that_can_be_reached(self):
        for bench in all_benches():
            found = pieces(bench)
            forks = bench.forks()
            self.assertEqual(sorted(sum(found, [])), sorted(forks))
            self.assertEqual([piece[0] for piece in found], sorted([piece[0] for piece in found], key=forks.index))
            for piece in found:
                self.assertEqual(piece, [fork for fork in forks if fork in reached(bench, piece[0])])
            self.assertEqual(bench.rounds, len(bench.strikes()) - len(forks) + len(found))


class WalkTest(unittest.TestCase):
    def test_a_fork_to_itself(self):
        bench = drawn("abcd", ["ab", "ba", "bc"])
        for fork in "abcd":
            self.assertEqual(walk(bench, fork, fork), [])

    def test_strikes_are_walked_in_either_direction(self):
        bench = drawn("abcd", ["ba", "bc", "dc"])
        self.assertEqual(walk(bench, "a", "d"), [0, 1, 2])
        self.assertEqual(walk(bench, "d", "a"), [2, 1, 0])
        self.assertEqual(walk(bench, "a", "b"), [0])
        self.assertEqual(walk(bench, "b", "a"), [0])

    def test_as_few_strikes_as_possible(self):
        bench = drawn("abcde", ["ab", "bc", "cd", "de", "ae"])
        self.assertEqual(walk(bench, "a", "e"), [4])
        self.assertEqual(walk(bench, "a", "d"), [4, 3])
        self.assertEqual(walk(bench, "b", "e"), [0, 4])
        self.assertEqual(walk(bench, "a", "c"), [0, 1])

    def test_the_least_of_several_strikes(self):
        self.assertEqual(walk(drawn("ab", ["ba", "ab", "ab"]), "a", "b"), [0])
        self.assertEqual(walk(drawn("abc", ["bc", "ab", "cb", "ba"]), "a", "c"), [1, 0])

    def test_the_least_of_several_shortest_walks(self):
        bench = drawn("abcd", ["cd", "ab", "ac", "bd"])
        self.assertEqual(walk(bench, "a", "d"), [1, 3])
        self.assertEqual(walk(bench, "d", "a"), [0, 2])
        bench = drawn("abcdef", ["ef", "df", "be", "cd", "ac", "ab"])
        self.assertEqual(walk(bench, "a", "f"), [4, 3, 1])
        self.assertEqual(walk(bench, "f", "a"), [0, 2, 5])

    def test_a_longer_walk_with_smaller_indexes_is_not_taken(self):
        bench = drawn("abcd", ["ab", "bc", "cd", "ad"])
        self.assertEqual(walk(bench, "a", "d"), [3])

    def test_walks_as_the_least_of_all_shortest_ones(self):
        for bench in all_benches():
            for a in bench.forks():
                found = shortest_walks(bench, a)
                for b in bench.forks():
                    if b in found:
                        self.assertEqual(walk(bench, a, b), min(found[b]))
                    else:
                        self.assertEqual(caught(walk, bench, a, b), (Apart, {"first": a, "second": b}))

    def test_unknown_forks(self):
        bench = drawn("abc", ["ab"])
        for name in ["x", *NO_NAMES]:
            self.assertEqual(caught(walk, bench, name, "a"), (UnknownFork, {"name": name}))
            self.assertEqual(caught(walk, bench, "a", name), (UnknownFork, {"name": name}))
            self.assertEqual(caught(walk, bench, "c", name), (UnknownFork, {"name": name}))
            self.assertEqual(caught(walk, bench, name, name), (UnknownFork, {"name": name}))
        self.assertEqual(caught(walk, bench, "x", "y"), (UnknownFork, {"name": "x"}))
        self.assertEqual(caught(walk, bench, "y", "x"), (UnknownFork, {"name": "y"}))
        self.assertEqual(caught(walk, Bench(), "a", "a"), (UnknownFork, {"name": "a"}))

    def test_forks_of_different_pieces(self):
        bench = drawn("abcd", ["ab", "cd"])
        self.assertEqual(caught(walk, bench, "a", "c"), (Apart, {"first": "a", "second": "c"}))
        self.assertEqual(caught(walk, bench, "d", "b"), (Apart, {"first": "d", "second": "b"}))
        self.assertEqual(caught(walk, drawn("ab", []), "a", "b"), (Apart, {"first": "a", "second": "b"}))


class BlocksTest(unittest.TestCase):
    def test_no_strikes(self):
        self.assertEqual((blocks(Bench()), cut_forks(Bench())), ([], []))
        self.assertEqual((blocks(drawn("abc", [])), cut_forks(drawn("abc", []))), ([], []))

    def test_one_strike(self):
        self.assertEqual((blocks(drawn("ab", ["ba"])), cut_forks(drawn("ab", ["ba"]))), ([[0]], []))

    def test_two_strikes_of_one_pair(self):
        for rows in [["ab", "ab"], ["ab", "ba"]]:
            self.assertEqual((blocks(drawn("abc", rows)), cut_forks(drawn("abc", rows))), ([[0, 1]], []))
        self.assertEqual(blocks(drawn("ab", ["ab", "ba", "ab"])), [[0, 1, 2]])
        self.assertEqual(blocks(drawn("abcd", ["ab", "cd", "dc", "ba"])), [[0, 3], [1, 2]])

    def test_strikes_in_no_round(self):
        bench = drawn("abcd", ["ab", "bc", "cd"])
        self.assertEqual((blocks(bench), cut_forks(bench)), ([[0], [1], [2]], ["b", "c"]))
        bench = drawn("dcba", ["ab", "ac", "ad"])
        self.assertEqual((blocks(bench), cut_forks(bench)), ([[0], [1], [2]], ["a"]))

    def test_rounds_that_share_a_fork(self):
        bench = drawn("abcde", ["ab", "bc", "ca", "cd", "de", "ec"])
        self.assertEqual((blocks(bench), cut_forks(bench)), ([[0, 1, 2], [3, 4, 5]], ["c"]))
        bench = drawn("abc", ["ab", "bc", "ab", "cb"])
        self.assertEqual((blocks(bench), cut_forks(bench)), ([[0, 2], [1, 3]], ["b"]))

    def test_rounds_that_share_two_forks(self):
        bench = drawn("abcd", ["ab", "bc", "cd", "da", "ac"])
        self.assertEqual((blocks(bench), cut_forks(bench)), ([[0, 1, 2, 3, 4]], []))

    def test_rounds_joined_by_a_strike(self):
        bench = drawn("fedcba", ["ab", "de", "bc", "ef", "ca", "cd", "fd"])
        self.assertEqual((blocks(bench), cut_forks(bench)), ([[0, 2, 4], [1, 3, 6], [5]], ["d", "c"]))

    def test_the_order_of_the_blocks(self):
        bench = drawn("abcdef", ["ef", "ab", "fe", "cd", "bc", "dc", "ca"])
        self.assertEqual(blocks(bench), [[0, 2], [1, 4, 6], [3, 5]])

    def test_cut_forks_in_bench_order(self):
        self.assertEqual(cut_forks(drawn("dacbe", ["ab", "bc", "cd", "de"])), ["d", "c", "b"])
        self.assertEqual(cut_forks(drawn("ebcda", ["ab", "bc", "cd", "de"])), ["b", "c", "d"])

    def test_several_pieces(self):
        bench = drawn("abcdefgh", ["ab", "cd", "de", "ec", "ef", "bh"])
        self.assertEqual((blocks(bench), cut_forks(bench)), ([[0], [1, 2, 3], [4], [5]], ["b", "e"]))

    def test_a_chain_of_pairs_of_ten_forks(self):
        bench = drawn(TEN, [*zip(TEN, TEN[1:]), *zip(TEN, TEN[1:])])
        self.assertEqual((blocks(bench), cut_forks(bench)), ([[at, at + 9] for at in range(9)], TEN[1:-1]))

    def test_a_ring_of_ten_forks_with_chords(self):
        rows = [TEN[at] + TEN[(at + 1) % 10] for at in range(10)] + [TEN[at] + TEN[(at + 2) % 10] for at in range(10)]
        bench = drawn(TEN, rows)
        self.assertEqual((blocks(bench), cut_forks(bench)), ([list(range(20))], []))
        bench = drawn(TEN, rows[:10])
        self.assertEqual((blocks(bench), cut_forks(bench)), ([list(range(10))], []))

    def test_blocks_by_all_simple_rounds(self):
        for bench in all_benches():
            self.assertEqual(blocks(bench), plain_blocks(bench))

    def test_cut_forks_as_forks_in_two_or_more_blocks(self):
        for bench in all_benches():
            rows = bench.strikes()
            many = {fork: 0 for fork in bench.forks()}
            for block in plain_blocks(bench):
                for fork in {fork for at in block for fork in rows[at][:2]}:
                    many[fork] += 1
            self.assertEqual(cut_forks(bench), [fork for fork in bench.forks() if many[fork] > 1])


class PartTest(unittest.TestCase):
    def test_each_block(self):
        bench = Bench(2)
        bench.add("f", "d", "a", "c", "b", "e")
        for row in [("a", "b", 4), ("d", "e", 0), ("c", "b", 3), ("e", "d", 2), ("c", "a", 1), ("e", "a", 7)]:
            bench.strike(*row)
        bench.tell(Above("a", "b"))
        parts = [part(bench, at) for at in range(3)]
        self.assertEqual([told(found) for found in parts], [
            (["a", "c", "b"], [("a", "b", 4), ("c", "b", 3), ("c", "a", 1)], [], 0, 1,
             ["add a c b", "strike a b 4", "strike c b 3", "strike c a 1"], []),
            (["d", "e"], [("d", "e", 0), ("e", "d", 2)], [], 0, 1, ["add d e", "strike d e 0", "strike e d 2"], []),
            (["a", "e"], [("e", "a", 7)], [], 0, 0, ["add a e", "strike e a 7"], []),
        ])
        self.assertEqual([type(found) for found in parts], [Bench] * 3)

    def test_the_parts_of_many_benches(self):
        for bench in all_benches()[::3]:
            rows = bench.strikes()
            for at, block in enumerate(plain_blocks(bench)):
                found = part(bench, at)
                strikes = [rows[index] for index in block]
                forks = [fork for fork in bench.forks() if any(fork in row[:2] for row in strikes)]
                self.assertEqual((found.forks(), found.strikes(), found.limit), (forks, strikes, 0))
                self.assertEqual(blocks(found), [list(range(len(block)))])
                self.assertEqual(found.history()[0], " ".join(["add", *forks]))
                self.assertEqual(len(found.history()), 1 + len(strikes))

    def test_blocks_that_are_not_there(self):
        bench = drawn("abcd", ["ab", "ba", "bc"])
        for index in [-1, 2, 3, -2, 10 ** 3999, -10 ** 3999]:
            self.assertEqual(caught(part, bench, index), (NoBlock, {"index": index}))
        for index in [-1, 0, 1]:
            self.assertEqual(caught(part, Bench(), index), (NoBlock, {"index": index}))
            self.assertEqual(caught(part, drawn("ab", []), index), (NoBlock, {"index": index}))

    def test_the_part_and_the_bench_share_nothing(self):
        bench = drawn("abc", ["ab", "bc"], limit=1)
        before = told(bench)
        found = part(bench, 0)
        found.add("z")
        found.strike("z", "a", 3)
        found.limit = 3
        self.assertEqual(told(bench), before)
        after = told(found)
        bench.strike("a", "b", 9)
        bench.undo()
        bench.undo()
        self.assertEqual(told(found), after)


class NothingChangesTest(unittest.TestCase):
    def test_the_bench_stays(self):
        bench = drawn("cabde", ["ab", "bc", "ca", "cd"], limit=1)
        bench.tell(Above("a", "b"))
        bench.add("f")
        bench.undo()
        before = told(bench)
        for act in [
            lambda: pieces(bench), lambda: blocks(bench), lambda: cut_forks(bench), lambda: part(bench, 0),
            lambda: walk(bench, "a", "d"), lambda: walk(bench, "a", "a"), lambda: bench.rounds,
        ]:
            act()
            self.assertEqual(told(bench), before)
        for act, args in [(part, (bench, 2)), (walk, (bench, "a", "x")), (walk, (bench, "a", "e"))]:
            caught(act, *args)
            self.assertEqual(told(bench), before)

    def test_the_lists_that_are_returned_are_new(self):
        bench = drawn("cabde", ["ab", "bc", "ca", "cd"])
        before = told(bench)
        acts = [
            lambda: pieces(bench), lambda: blocks(bench), lambda: cut_forks(bench),
            lambda: walk(bench, "a", "d"), lambda: walk(bench, "a", "a"),
        ]
        for act in acts:
            first = act()
            self.assertIs(type(first), list)
            kept = str(first)
            for inner in first:
                if isinstance(inner, list):
                    inner.append("x")
                    inner.reverse()
            first.append("y")
            first.reverse()
            self.assertEqual(str(act()), kept)
            self.assertEqual(told(bench), before)

    def test_what_was_returned_does_not_change_later(self):
        bench = drawn("cabde", ["ab", "bc", "ca", "cd"])
        kept = pieces(bench), blocks(bench), cut_forks(bench), walk(bench, "b", "d")
        text = str(kept)
        bench.strike("d", "b", 1)
        bench.strike("d", "e", 1)
        self.assertEqual(str(kept), text)
        self.assertNotEqual(str((pieces(bench), blocks(bench), cut_forks(bench), walk(bench, "b", "d"))), text)


if __name__ == "__main__":
    unittest.main()
