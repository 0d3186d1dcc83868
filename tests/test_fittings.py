"""Fittings, shapes, blocks that are turned over, and counts of fittings (points 1, 2 and 21 to 25)."""

import itertools
import math
import string
import types
import unittest

from forkbeats.bench import Bench
from forkbeats.errors import NoBlock, UnknownFork
from forkbeats.facts import Above, AsOften, Between, Highest, InTune, Trio
from forkbeats.fittings import (
    block_counts, count_fittings, count_shapes, fits, fittings, residues, shapes, turn_block,
)
from forkbeats.graph import blocks, part, pieces
from forkbeats.tunings import Tuning
from tests.helpers import caught, told
from tests.plain import all_benches, all_rows, plain_rows, plain_shapes

TEN = list(string.ascii_lowercase[:10])
TRIANGLE = (("a", "b", 1), ("b", "c", 2), ("c", "a", 3))


def rows(found):
    """Return the pitches of the tunings."""
    return [tuning.pitches() for tuning in found]


def chain(many, limit=0):
    """Return a bench with so many forks in a row, whose counts tell all rises apart."""
    return Bench.of(*[(TEN[at], TEN[at + 1], 4 * 10 ** at) for at in range(many - 1)], limit=limit)


def full(limit=3):
    """Return a bench with the greatest numbers of forks, strikes and facts."""
    pitches = [0, 3, -2, 7, 4, 4, -9, 1, 12, 5]
    pairs = list(itertools.combinations(range(10), 2))[::2][:20]
    bench = Bench(limit)
    bench.add(*TEN)
    for a, b in pairs:
        bench.strike(TEN[b], TEN[a], abs(pitches[a] - pitches[b]) + (1 if (a, b) == pairs[7] else 0))
    for a, b in pairs[:12]:
        bench.tell(Above(TEN[a], TEN[b]) | ~Above(TEN[a], TEN[b]))
    return bench


class FitsTest(unittest.TestCase):
    def assert_fits(self, bench, tuning, residue, *limits):
        """Check the residues of the tuning, and that it fits with exactly these limits."""
        self.assertEqual(residues(bench, tuning), residue)
        for limit in range(4):
            bench.limit = limit
            self.assertIs(fits(bench, tuning), limit in limits, limit)
            self.assertEqual(residues(bench, tuning), residue)

    def test_exact_strikes(self):
        self.assert_fits(Bench.of(*TRIANGLE), Tuning.of(a=0, b=1, c=3), [0, 0, 0], 0, 1, 2, 3)
        self.assert_fits(Bench.of(*TRIANGLE), Tuning.of(a=7, b=6, c=4), [0, 0, 0], 0, 1, 2, 3)

    def test_strikes_that_are_off(self):
        self.assert_fits(Bench.of(("a", "b", 4)), Tuning.of(a=0, b=5), [1], 1, 2, 3)
        self.assert_fits(Bench.of(("a", "b", 4)), Tuning.of(a=2, b=-1), [-1], 1, 2, 3)
        self.assert_fits(Bench.of(("a", "b", 0)), Tuning.of(a=2, b=1), [1], 1, 2, 3)
        self.assert_fits(Bench.of(("a", "b", 1)), Tuning.of(a=2, b=2), [-1], 1, 2, 3)
        self.assert_fits(Bench.of(*TRIANGLE), Tuning.of(a=0, b=2, c=3), [1, -1, 0], 2, 3)

    def test_as_many_as_the_limit(self):
        strikes = [("a", "b", 4), ("b", "a", 6), ("a", "b", 5), ("b", "a", 4), ("a", "b", 4)]
        for many in range(6):
            bench = Bench.of(*strikes[:many] if many else [("a", "b", 5)])
            off = [0, 1, 2, 2, 3, 4][many]
            self.assert_fits(bench, Tuning.of(a=5, b=0), [1, -1, 0, 1, 1][:many] or [0], *range(off, 4))

    def test_strikes_that_are_wrong(self):
        self.assert_fits(Bench.of(("a", "b", 4)), Tuning.of(a=0, b=6), [2])
        self.assert_fits(Bench.of(("a", "b", 4)), Tuning.of(a=0, b=2), [-2])
        self.assert_fits(Bench.of(("a", "b", 4), ("a", "b", 7)), Tuning.of(a=0, b=4), [0, -3])
        self.assert_fits(Bench.of(("a", "b", 0)), Tuning.of(a=0, b=10 ** 400), [10 ** 400])

    def test_facts_that_hold_and_that_break(self):
        bench = Bench.of(*TRIANGLE)
        bench.tell(Above("b", "a"))
        bench.tell(Between("a", "b", "c"))
        self.assert_fits(bench, Tuning.of(a=0, b=1, c=3), [0, 0, 0], 0, 1, 2, 3)
        self.assert_fits(bench, Tuning.of(a=0, b=-1, c=-3), [0, 0, 0])
        bench.tell(InTune("a", "b"))
        self.assert_fits(bench, Tuning.of(a=0, b=1, c=3), [0, 0, 0])

    def test_more_names_in_another_order(self):
        bench = Bench.of(*TRIANGLE)
        bench.tell(Above("b", "a"))
        self.assert_fits(bench, Tuning.of(z=9, c=3, y=-4, b=1, a=0), [0, 0, 0], 0, 1, 2, 3)
        self.assert_fits(bench, Tuning.of(z=9, c=3, y=-4, b=-1, a=0), [0, 2, 0])

    def test_no_forks_and_no_strikes(self):
        self.assert_fits(Bench(), Tuning.of(), [], 0, 1, 2, 3)
        self.assert_fits(Bench(), Tuning.of(a=4), [], 0, 1, 2, 3)
        bench = Bench()
        bench.add("b", "a")
        self.assert_fits(bench, Tuning.of(a=4, b=-5), [], 0, 1, 2, 3)
        bench.tell(~Highest("a"))
        self.assert_fits(bench, Tuning.of(a=4, b=-5), [])

    def test_several_pieces_slide_freely(self):
        bench = Bench.of(("a", "b", 1), ("c", "d", 2), ("d", "e", 0))
        self.assert_fits(bench, Tuning.of(a=10, b=11, c=-4, d=-6, e=-6), [0, 0, 0], 0, 1, 2, 3)

    def test_the_first_fork_in_bench_order_that_is_missing(self):
        bench = Bench.of(("c", "a", 1), ("b", "d", 2))
        bench.add("e")
        for ask in (fits, residues):
            self.assertEqual(caught(ask, bench, Tuning.of()), (UnknownFork, {"name": "c"}))
            self.assertEqual(caught(ask, bench, Tuning.of(c=0)), (UnknownFork, {"name": "a"}))
            self.assertEqual(caught(ask, bench, Tuning.of(d=1, a=0, c=0)), (UnknownFork, {"name": "b"}))
            self.assertEqual(caught(ask, bench, Tuning.of(a=9, b=1, c=0, d=1)), (UnknownFork, {"name": "e"}))

    def test_missing_forks_come_before_what_does_not_fit(self):
        bench = Bench.of(("a", "b", 1), ("b", "c", 1))
        bench.tell(Above("a", "b"))
        self.assertEqual(caught(fits, bench, Tuning.of(a=0, b=50)), (UnknownFork, {"name": "c"}))


class FittingsTest(unittest.TestCase):
    def assert_rows(self, bench, *expected):
        """Check the pitches of all fittings."""
        found = list(fittings(bench))
        self.assertEqual(rows(found), list(expected))
        self.assertEqual(count_fittings(bench), len(expected))
        for tuning in found:
            self.assertIsInstance(tuning, Tuning)
            self.assertEqual(tuning.names(), bench.forks())

    def test_one_strike_with_each_limit(self):
        self.assert_rows(Bench.of(("a", "b", 4)), (0, -4), (0, 4))
        self.assert_rows(Bench.of(("a", "b", 0)), (0, 0))
        for limit in (1, 2, 3):
            self.assert_rows(
                Bench.of(("a", "b", 4), limit=limit), (0, -5), (0, -4), (0, -3), (0, 3), (0, 4), (0, 5))
            self.assert_rows(Bench.of(("a", "b", 1), limit=limit), (0, -2), (0, -1), (0, 0), (0, 1), (0, 2))
            self.assert_rows(Bench.of(("a", "b", 0), limit=limit), (0, -1), (0, 0), (0, 1))

    def test_the_order_is_that_of_the_pitches(self):
        bench = Bench.of(("a", "c", 1), ("a", "b", 2))
        self.assert_rows(bench, (0, -1, -2), (0, -1, 2), (0, 1, -2), (0, 1, 2))
        bench = Bench()
        bench.add("d", "c", "b", "a")
        for pair in ("ab", "bc", "cd"):
            bench.strike(*pair, 1)
        self.assert_rows(
            bench, (0, -1, -2, -3), (0, -1, -2, -1), (0, -1, 0, -1), (0, -1, 0, 1),
            (0, 1, 0, -1), (0, 1, 0, 1), (0, 1, 2, 1), (0, 1, 2, 3))

    def test_several_pieces(self):
        bench = Bench()
        bench.add("a", "b", "c", "d", "e")
        bench.strike("a", "d", 1)
        bench.strike("e", "b", 2)
        self.assert_rows(bench, (0, 0, 0, -1, -2), (0, 0, 0, -1, 2), (0, 0, 0, 1, -2), (0, 0, 0, 1, 2))

    def test_the_limit_counts_the_strikes_of_all_pieces(self):
        bench = Bench.of(("a", "b", 0), ("c", "d", 0), limit=1)
        self.assert_rows(bench, (0, -1, 0, 0), (0, 0, 0, -1), (0, 0, 0, 0), (0, 0, 0, 1), (0, 1, 0, 0))
        bench.limit = 2
        self.assertEqual(count_fittings(bench), 9)

    def test_without_forks(self):
        for limit in range(4):
            self.assert_rows(Bench(limit), ())
        found = list(fittings(Bench()))
        self.assertEqual(found, [Tuning.of()])

    def test_without_strikes(self):
        bench = Bench()
        bench.add("b")
        self.assert_rows(bench, (0,))
        bench.add("a", "c")
        self.assert_rows(bench, (0, 0, 0))
        bench.tell(Highest("a"))
        self.assert_rows(bench, (0, 0, 0))
        bench.tell(~Highest("c"))
        self.assert_rows(bench)

    def test_without_fittings(self):
        self.assert_rows(Bench.of(("a", "b", 1), ("b", "a", 2)))
        self.assert_rows(Bench.of(("a", "b", 1), ("b", "a", 5), limit=3))
        self.assert_rows(Bench.of(("a", "b", 1), ("b", "c", 1), ("c", "a", 1)))

    def test_facts(self):
        bench = Bench.of(*TRIANGLE)
        self.assert_rows(bench, (0, -1, -3), (0, 1, 3))
        bench.tell(Above("b", "a"))
        self.assert_rows(bench, (0, 1, 3))
        bench.tell(Trio("c", "a", "b", beats=(3, 1, 2)))
        self.assert_rows(bench, (0, 1, 3))
        bench.tell(AsOften("a", "b", "b", "c"))
        self.assert_rows(bench)
        bench.limit = 1
        self.assert_rows(bench)

    def test_facts_are_exact_with_any_limit(self):
        bench = Bench.of(("a", "b", 3), ("b", "c", 3), limit=1)
        bench.tell(AsOften("a", "b", "b", "c"))
        self.assert_rows(bench, (0, -3, -6), (0, -3, 0), (0, 3, 0), (0, 3, 6))
        bench.limit = 2
        self.assertEqual(count_fittings(bench), 12)

    def test_a_pair_that_is_struck_several_times(self):
        self.assert_rows(Bench.of(("a", "b", 2), ("b", "a", 2)), (0, -2), (0, 2))
        self.assert_rows(Bench.of(("a", "b", 2), ("b", "a", 4), limit=2), (0, -3), (0, 3))
        self.assert_rows(Bench.of(("a", "b", 2), ("b", "a", 3), limit=1), (0, -3), (0, -2), (0, 2), (0, 3))

    def test_great_counts(self):
        bench = Bench.of(("a", "b", 10 ** 9), limit=1)
        self.assertEqual(rows(fittings(bench))[-1], (0, 10 ** 9 + 1))

    def test_all_benches_as_a_plain_search_finds_them(self):
        for bench, expected in zip(all_benches(), all_rows()):
            self.assert_rows(bench, *expected)

    def test_each_fitting_fits_and_each_other_row_does_not(self):
        for bench, expected in zip(all_benches()[::4], all_rows()[::4]):
            for tuning in fittings(bench):
                self.assertTrue(fits(bench, tuning))
            for row in plain_rows(bench, limit=3 if len(bench.strikes()) < 5 else 0):
                self.assertIs(fits(bench, Tuning(bench.forks(), row)), row in expected)

    def test_one_by_one(self):
        found = fittings(Bench.of(*TRIANGLE))
        self.assertIsInstance(found, types.GeneratorType)
        self.assertEqual(next(found).pitches(), (0, -1, -3))
        self.assertEqual(next(found).pitches(), (0, 1, 3))
        self.assertIsNone(next(found, None))

    def test_tunings_that_are_kept(self):
        found = []
        for tuning in fittings(chain(4)):
            found.append(tuning)
            tuning.names().clear()
        self.assertEqual(len({id(tuning) for tuning in found}), 8)
        self.assertEqual(rows(found), plain_rows(chain(4)))
        self.assertEqual(found[0].names(), TEN[:4])

    def test_a_loop_within_a_loop(self):
        bench = chain(3)
        expected = plain_rows(bench)
        found = [(first.pitches(), second.pitches()) for first in fittings(bench) for second in fittings(bench)]
        self.assertEqual(found, list(itertools.product(expected, repeat=2)))
        together = list(zip(fittings(bench), shapes(bench)))
        self.assertEqual([(first.pitches(), second.pitches()) for first, second in together],
                         list(zip(expected, expected[:2])))

    def test_ten_forks(self):
        self.assertEqual(count_fittings(chain(10)), 512)
        self.assertEqual(len(list(fittings(chain(10)))), 512)
        self.assertEqual(count_fittings(chain(10, limit=1)), 512 * 19)
        bench = full()
        found = rows(fittings(bench))
        self.assertEqual(found, sorted(found))
        self.assertIn((0, 3, -2, 7, 4, 4, -9, 1, 12, 5), found)
        self.assertEqual(count_fittings(bench), len(set(found)))
        for tuning in fittings(bench):
            self.assertTrue(fits(bench, tuning))


class ShapesTest(unittest.TestCase):
    def assert_shapes(self, bench, *expected):
        """Check the pitches of all shapes."""
        found = list(shapes(bench))
        self.assertEqual(rows(found), list(expected))
        self.assertEqual(count_shapes(bench), len(expected))
        for tuning in found:
            self.assertEqual(tuning.names(), bench.forks())

    def test_of_two_turned_fittings_the_first(self):
        self.assert_shapes(Bench.of(*TRIANGLE), (0, -1, -3))
        self.assert_shapes(Bench.of(("a", "b", 1), ("b", "c", 2)), (0, -1, -3), (0, -1, 1))
        self.assert_shapes(Bench.of(("a", "b", 1), ("b", "a", 2), limit=1), (0, -2), (0, -1))

    def test_fittings_that_are_their_own_turned_ones(self):
        self.assert_shapes(Bench.of(("a", "b", 0), ("b", "c", 0)), (0, 0, 0))
        self.assert_shapes(Bench.of(("a", "b", 0), limit=1), (0, -1), (0, 0))
        self.assert_shapes(Bench(), ())

    def test_a_bench_is_turned_as_a_whole(self):
        self.assert_shapes(Bench.of(("a", "b", 1), ("c", "d", 2)), (0, -1, 0, -2), (0, -1, 0, 2))

    def test_facts_that_tell_up_from_down(self):
        bench = Bench.of(("a", "b", 1), ("b", "c", 2))
        bench.tell(Above("b", "a"))
        self.assert_shapes(bench, (0, 1, -1), (0, 1, 3))
        bench = Bench.of(("a", "b", 1), ("b", "c", 2))
        bench.tell(Above("b", "a") | Between("a", "b", "c"))
        self.assert_shapes(bench, (0, -1, -3), (0, 1, -1))

    def test_facts_that_do_not(self):
        bench = Bench.of(("a", "b", 1), ("b", "c", 2))
        bench.tell(Between("a", "b", "c"))
        self.assert_shapes(bench, (0, -1, -3))

    def test_without_fittings(self):
        self.assert_shapes(Bench.of(("a", "b", 1), ("b", "a", 2)))

    def test_all_benches(self):
        for bench, found in zip(all_benches(), all_rows()):
            self.assert_shapes(bench, *plain_shapes(found))

    def test_one_by_one(self):
        found = shapes(chain(3))
        self.assertIsInstance(found, types.GeneratorType)
        self.assertEqual(next(found).pitches(), (0, -4, -44))
        self.assertEqual([tuning.pitches() for tuning in found], [(0, -4, 36)])


class TurnBlockTest(unittest.TestCase):
    def bench(self):
        """Return a bench with three blocks, of which two are rounds, in two pieces."""
        bench = Bench()
        bench.add("e", "a", "b", "c", "d", "f")
        for a, b, count in (("a", "b", 1), ("b", "c", 2), ("c", "a", 3), ("c", "d", 4), ("e", "f", 5), ("f", "e", 5)):
            bench.strike(a, b, count)
        return bench

    def assert_turned(self, bench, tuning, index, found):
        """Check that exactly the rises of this block are opposite."""
        self.assertEqual(found.names(), bench.forks())
        for at, (a, b, _) in enumerate(bench.strikes()):
            rise = tuning[b] - tuning[a]
            self.assertEqual(found[b] - found[a], -rise if at in blocks(bench)[index] else rise)
        for piece in pieces(bench):
            self.assertEqual(found[piece[0]], 0)

    def test_each_block(self):
        bench = self.bench()
        tuning = Tuning.of(e=0, a=0, b=1, c=3, d=-1, f=5)
        self.assertEqual(turn_block(bench, tuning, 0), Tuning.of(e=0, a=0, b=-1, c=-3, d=-7, f=5))
        self.assertEqual(turn_block(bench, tuning, 1), Tuning.of(e=0, a=0, b=1, c=3, d=7, f=5))
        self.assertEqual(turn_block(bench, tuning, 2), Tuning.of(e=0, a=0, b=1, c=3, d=-1, f=-5))

    def test_a_tuning_that_does_not_fit_with_more_names_in_another_order(self):
        tuning = Tuning.of(z=7, f=-20, d=100, c=-7, b=50, y=0, a=9, e=3)
        for index in range(3):
            self.assert_turned(self.bench(), tuning, index, turn_block(self.bench(), tuning, index))
        self.assertEqual(turn_block(self.bench(), tuning, 2).pitches(), (0, 0, 41, -16, 91, 23))

    def test_twice_gives_the_normal_form_of_each_piece(self):
        bench = self.bench()
        tuning = Tuning.of(e=5, a=9, b=50, c=-7, d=100, f=-20)
        for index in range(3):
            again = turn_block(bench, turn_block(bench, tuning, index), index)
            self.assertEqual(again.pitches(), (0, 0, 41, -16, 91, -25))
        bench = Bench.of(*TRIANGLE, ("c", "d", 0))
        tuning = Tuning.of(a=4, b=2, c=8, d=-1)
        for index in range(2):
            self.assertEqual(turn_block(bench, turn_block(bench, tuning, index), index), tuning.normal())

    def test_all_blocks_of_all_benches(self):
        for bench in all_benches()[::3]:
            tuning = Tuning(bench.forks(), [at * at - 5 for at in range(len(bench.forks()))])
            for index in range(len(blocks(bench))):
                found = turn_block(bench, tuning, index)
                self.assert_turned(bench, tuning, index, found)
                again = turn_block(bench, found, index)
                for piece in pieces(bench):
                    self.assertEqual([again[name] for name in piece],
                                     [tuning[name] - tuning[piece[0]] for name in piece])

    def test_a_turned_fitting_is_a_fitting_if_no_fact_is_told(self):
        bench = self.bench()
        found = list(fittings(bench))
        for tuning in found:
            for index in range(3):
                self.assertIn(turn_block(bench, tuning, index), found)

    def test_errors(self):
        bench = self.bench()
        good = Tuning.of(e=0, a=0, b=1, c=3, d=-1, f=5)
        for index in (-1, 3, 4, 10 ** 20):
            self.assertEqual(caught(turn_block, bench, good, index), (NoBlock, {"index": index}))
            self.assertEqual(caught(turn_block, bench, Tuning.of(), index), (NoBlock, {"index": index}))
        self.assertEqual(caught(turn_block, bench, Tuning.of(), 0), (UnknownFork, {"name": "e"}))
        self.assertEqual(caught(turn_block, bench, Tuning.of(f=1, e=0, a=2), 2), (UnknownFork, {"name": "b"}))
        self.assertEqual(caught(turn_block, Bench(), Tuning.of(), 0), (NoBlock, {"index": 0}))

    def test_the_tuning_stays(self):
        tuning = Tuning.of(e=5, a=9, b=50, c=-7, d=100, f=-20)
        turn_block(self.bench(), tuning, 0)
        self.assertEqual(tuning, Tuning.of(e=5, a=9, b=50, c=-7, d=100, f=-20))


class BlockCountsTest(unittest.TestCase):
    def test_the_fittings_of_each_block(self):
        bench = Bench.of(*TRIANGLE, ("c", "d", 4), ("d", "e", 0), ("e", "d", 0), ("e", "f", 1), ("f", "e", 2))
        self.assertEqual(block_counts(bench), [2, 2, 1, 0])

    def test_the_limit_and_the_facts_of_the_bench_do_not_matter(self):
        for limit in range(4):
            bench = Bench.of(*TRIANGLE, ("c", "d", 4), limit=limit)
            bench.tell(Above("a", "b"))
            bench.tell(InTune("c", "d"))
            self.assertEqual(block_counts(bench), [2, 2])

    def test_without_blocks(self):
        self.assertEqual(block_counts(Bench()), [])
        bench = Bench()
        bench.add("a", "b")
        self.assertEqual(block_counts(bench), [])
        self.assertEqual(count_fittings(bench), 1)

    def test_the_product(self):
        for bench in all_benches():
            counts = block_counts(bench)
            self.assertEqual(counts, [len(plain_rows(part(bench, at))) for at in range(len(counts))])
            plain = Bench.of(*bench.strikes())
            self.assertEqual(math.prod(counts), count_fittings(plain))


class NothingChangesTest(unittest.TestCase):
    def test_the_bench_stays(self):
        for bench in all_benches()[:40] + [full()]:
            bench = bench.twin()
            if bench.history():
                bench.undo()
            before = told(bench)
            tuning = Tuning(bench.forks(), [0] * len(bench.forks()))
            for ask in (count_fittings, count_shapes, block_counts):
                self.assertEqual(ask(bench), ask(bench))
            for ask in (fittings, shapes):
                self.assertEqual(list(ask(bench)), list(ask(bench)))
            fits(bench, tuning)
            for index in range(len(blocks(bench))):
                turn_block(bench, tuning, index)
            residues(bench, tuning).append(5)
            block_counts(bench).append(5)
            self.assertEqual(told(bench), before)

    def test_lists_that_are_returned_are_new(self):
        bench = Bench.of(*TRIANGLE)
        residues(bench, Tuning.of(a=0, b=1, c=3)).clear()
        block_counts(bench).clear()
        self.assertEqual(residues(bench, Tuning.of(a=0, b=1, c=3)), [0, 0, 0])
        self.assertEqual(block_counts(bench), [2])

    def test_another_bench_with_the_same_state_answers_the_same(self):
        bench = Bench.of(("a", "b", 9), limit=2)
        bench.undo()
        bench.add("c")
        bench.strike("c", "a", 2)
        bench.strike("a", "b", 1)
        other = Bench(2)
        other.add("a", "b", "c")
        other.strike("c", "a", 2)
        other.strike("a", "b", 1)
        self.assertEqual(rows(fittings(bench)), rows(fittings(other)))
        self.assertEqual(rows(shapes(bench)), rows(shapes(other)))


if __name__ == "__main__":
    unittest.main()
