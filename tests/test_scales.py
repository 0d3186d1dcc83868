"""Lots of beats, rows and scales (points 1 and 38 to 40)."""

import itertools
import random
import string
import unittest

from forkbeats.bench import Bench
from forkbeats.errors import BadCount, BadLot, BadStep, TooMany
from forkbeats.facts import Above, Fact, Highest, InTune
from forkbeats.fittings import fits
from forkbeats.scales import alike_in_beats, beats_of, degrees, differences, rebuild, sums
from forkbeats.tunings import Tuning
from tests.helpers import caught, told
from tests.plain import all_benches

MOST = Fact.MOST_COUNT


class BeatsTest(unittest.TestCase):
    def test_all_pairs(self):
        self.assertEqual(beats_of([5, 0, 2]), [2, 3, 5])
        self.assertEqual(beats_of((0, 1, 4, 10, 12, 17)), [1, 2, 3, 4, 5, 6, 7, 8, 9, 10, 11, 12, 13, 16, 17])
        self.assertEqual(beats_of((-3, 4)), [7])
        self.assertEqual(beats_of([-10 ** 30, 10 ** 30]), [2 * 10 ** 30])

    def test_repeated_pitches(self):
        self.assertEqual(beats_of([4, 4]), [0])
        self.assertEqual(beats_of((1, 3, 1, 3)), [0, 0, 2, 2, 2, 2])

    def test_no_pitch_and_one(self):
        for pitches in ([], (), [7], (-7,)):
            self.assertEqual(beats_of(pitches), [])

    def test_alike(self):
        self.assertIs(alike_in_beats((0, 1, 4, 10, 12, 17), [0, 1, 8, 11, 13, 17]), True)
        self.assertIs(alike_in_beats([0, 1, 3], (7, 9, 10)), True)
        self.assertIs(alike_in_beats([3, 1, 0], (0, 2, 2)), False)
        self.assertIs(alike_in_beats([], [5]), True)
        self.assertIs(alike_in_beats((), (5, 5)), False)
        self.assertIs(alike_in_beats([0, 0, 2], [0, 2, 2]), True)
        self.assertIs(alike_in_beats([0, 0, 0, 2], [0, 0, 2, 2]), False)

    def test_sums_and_differences(self):
        self.assertEqual(sums([0, 2], (1, 3)), [1, 3, 3, 5])
        self.assertEqual(differences((0, 2), [1, 3]), [-3, -1, -1, 1])
        self.assertEqual(sums([5, 5], [1]), [6, 6])
        self.assertEqual(differences([1], [5, 5]), [-4, -4])
        self.assertEqual(sums([], [1]), [])
        self.assertEqual(differences((1,), ()), [])
        self.assertEqual(differences([3], [3]), [0])

    def test_sums_and_differences_are_alike_in_beats(self):
        source = random.Random(38)
        for _ in range(200):
            first = [source.randrange(-9, 10) for _ in range(source.randrange(5))]
            second = tuple(source.randrange(-9, 10) for _ in range(source.randrange(5)))
            self.assertEqual(sums(first, second), sorted(x + y for x, y in itertools.product(first, second)))
            self.assertEqual(differences(first, second), sorted(x - y for x, y in itertools.product(first, second)))
            self.assertTrue(alike_in_beats(sums(first, second), differences(first, second)))

    def test_the_lists_stay(self):
        first, second = [3, 1, 2], [9, 1]
        for ask in (alike_in_beats, sums, differences):
            ask(first, second)
        found = beats_of(first)
        found.append(7)
        self.assertEqual((first, second), ([3, 1, 2], [9, 1]))
        self.assertEqual(beats_of(first), [1, 1, 2])


def plain_rebuild(beats, many):
    """Return all rows of so many pitches with these beats, by trying all of them."""
    length = max(beats, default=0)
    rows = [(0, *inner, length) for inner in itertools.combinations_with_replacement(range(length + 1), many - 2)]
    rows = [row for row in rows if beats_of(row) == sorted(beats)]
    return sorted({min(row, tuple(length - pitch for pitch in reversed(row))) for row in rows})


class RebuildTest(unittest.TestCase):
    def test_few_beats(self):
        self.assertEqual(rebuild([]), [(0,)])
        self.assertEqual(rebuild([4]), [(0, 4)])
        self.assertEqual(rebuild([0]), [(0, 0)])
        self.assertEqual(rebuild([MOST]), [(0, MOST)])
        self.assertEqual(rebuild([1, 2, 3]), [(0, 1, 3)])
        self.assertEqual(rebuild([0, 0, 0]), [(0, 0, 0)])
        self.assertEqual(rebuild([2, 0, 2]), [(0, 0, 2)])
        self.assertEqual(rebuild([1, 1, 2]), [(0, 1, 2)])

    def test_no_row(self):
        self.assertEqual(rebuild([1, 1, 1]), [])
        self.assertEqual(rebuild([0, 0, 1]), [])
        self.assertEqual(rebuild([1, 2, 3, 4, 5, 5]), [])
        self.assertEqual(rebuild([9, 1, 1]), [])

    def test_more_rows_than_one(self):
        beats = beats_of((0, 1, 4, 10, 12, 17))
        for _ in range(3):
            self.assertEqual(rebuild(beats), [(0, 1, 4, 10, 12, 17), (0, 1, 8, 11, 13, 17)])
            beats = beats[::-2] + beats[-2::-2]
            beats = sorted(beats, key=lambda count: count * 7 % 11)

    def test_the_lesser_of_mirror_images(self):
        for row in ((0, 2, 3), (0, 1, 3), (0, 5, 6, 7), (0, 1, 2, 7)):
            mirrored = tuple(row[-1] - pitch for pitch in reversed(row))
            self.assertEqual(rebuild(beats_of(row)), [min(row, mirrored)])

    def test_all_small_lots(self):
        for many, most in ((3, 5), (4, 4)):
            size = many * (many - 1) // 2
            for beats in itertools.combinations_with_replacement(range(most), size):
                self.assertEqual(rebuild(list(beats)), plain_rebuild(beats, many))

    def test_rows_of_each_size_in_any_order(self):
        source = random.Random(39)
        for many in range(2, 8):
            for trial in range(12):
                row = [0, *[source.randrange(9 if many < 7 else 8) for _ in range(many - 1)]]
                beats = beats_of(row)
                source.shuffle(beats)
                found = rebuild(beats)
                if many < 7 or trial < 3:
                    self.assertEqual(found, plain_rebuild(beats, many))
                least = tuple(sorted(pitch - min(row) for pitch in row))
                self.assertIn(min(least, tuple(least[-1] - pitch for pitch in reversed(least))), found)
                for other in found:
                    self.assertEqual(beats_of(other), sorted(beats))
                    self.assertEqual((type(other), len(other), other[0]), (tuple, many, 0))

    def test_seven_equal_pitches(self):
        self.assertEqual(rebuild([0] * 21), [(0,) * 7])
        self.assertEqual(rebuild([1] * 21), [])

    def test_great_beats(self):
        row = (0, 10 ** 8, 3 * 10 ** 8 + 1, 10 ** 9)
        self.assertEqual(rebuild(beats_of(row)), [row])

    def test_wrong_sizes(self):
        for size in range(30):
            if size not in (0, 1, 3, 6, 10, 15, 21):
                self.assertEqual(caught(rebuild, [0] * size), (BadLot, {"size": size}))
                self.assertEqual(caught(rebuild, [-1] * size), (BadLot, {"size": size}))
        self.assertEqual(caught(rebuild, [1] * 28), (BadLot, {"size": 28}))

    def test_wrong_counts(self):
        for beats, count in (
            ([-1], -1), ([MOST + 1], MOST + 1), ([3, -2, -5], -2), ([MOST + 2, 1, -5], MOST + 2), ([1, 2, -9], -9),
            ([0] * 20 + [-1], -1),
        ):
            self.assertEqual(caught(rebuild, beats), (BadCount, {"count": count}))

    def test_the_list_stays(self):
        beats = [3, 1, 2]
        rebuild(beats).append(5)
        self.assertEqual(beats, [3, 1, 2])
        self.assertEqual(rebuild(beats), [(0, 1, 3)])


def plain_degrees(bench, steps):
    """Return all tuples of degrees whose tunings fit."""
    scale = list(itertools.accumulate(steps, initial=0))
    rows = itertools.product(range(len(scale)), repeat=len(bench.forks()))
    return [row for row in rows if fits(bench, Tuning(bench.forks(), [scale[at] for at in row]))]


class DegreesTest(unittest.TestCase):
    def test_one_strike(self):
        bench = Bench.of(("a", "b", 3))
        self.assertEqual(degrees(bench, [1, 2, 1]), [(0, 2), (1, 3), (2, 0), (3, 1)])
        self.assertEqual(degrees(bench, [2, 2]), [])
        self.assertEqual(degrees(bench, [3]), [(0, 1), (1, 0)])

    def test_no_steps_and_one(self):
        bench = Bench.of(("a", "b", 0))
        self.assertEqual(degrees(bench, []), [(0, 0)])
        self.assertEqual(degrees(bench, [1]), [(0, 0), (1, 1)])
        self.assertEqual(degrees(Bench.of(("a", "b", 1)), []), [])
        self.assertEqual(degrees(Bench.of(("a", "b", 1), limit=1), []), [(0, 0)])

    def test_without_forks_and_without_strikes(self):
        self.assertEqual(degrees(Bench(), []), [()])
        self.assertEqual(degrees(Bench(3), [1, 5]), [()])
        bench = Bench()
        bench.add("a", "b")
        self.assertEqual(degrees(bench, [5]), [(0, 0), (0, 1), (1, 0), (1, 1)])
        bench.tell(~Highest("a"))
        self.assertEqual(degrees(bench, [5]), [])

    def test_facts_and_limits(self):
        bench = Bench.of(("a", "b", 2), ("b", "c", 2))
        bench.tell(Above("a", "b"))
        self.assertEqual(degrees(bench, [1, 1, 1]), [(2, 0, 2), (3, 1, 3)])
        bench.tell(~InTune("a", "c"))
        self.assertEqual(degrees(bench, [1, 1, 1]), [])
        bench.limit = 1
        self.assertEqual(degrees(bench, [1, 1, 1]), plain_degrees(bench, [1, 1, 1]))
        self.assertEqual(degrees(bench, [1, 1]), [(1, 0, 2), (2, 0, 1)])

    def test_the_bench_order_counts(self):
        bench = Bench()
        bench.add("d", "a", "c", "b")
        for a, b, count in (("a", "b", 1), ("b", "c", 2), ("c", "d", 1)):
            bench.strike(a, b, count)
        bench.tell(Above("c", "a"))
        for steps in ([1, 1, 1, 1], [1, 2, 1], [2, 1, 3]):
            self.assertEqual(degrees(bench, steps), plain_degrees(bench, steps))

    def test_all_benches(self):
        for at, bench in enumerate(all_benches()[::2]):
            steps = [[1, 2, 1], [1, 1, 1, 1], [2], [1, 3]][at % 4]
            found = degrees(bench, steps)
            self.assertEqual(found, plain_degrees(bench, steps))
            self.assertTrue(all(type(row) is tuple for row in found))

    def test_twelve_steps(self):
        bench = Bench.of(("a", "b", 12))
        self.assertEqual(degrees(bench, [1] * 12), [(0, 12), (12, 0)])
        self.assertEqual(degrees(bench, [10 ** 30] * 11 + [12]), [(11, 12), (12, 11)])
        bench = Bench.of(*[(a, b, 1) for a, b in itertools.pairwise(string.ascii_lowercase[:10])])
        bench.tell(Highest("j", *string.ascii_lowercase[:9]))
        found = degrees(bench, [1] * 12)
        self.assertEqual(found, sorted(set(found)))
        self.assertIn(tuple(range(3, 13)), found)
        self.assertEqual(degrees(bench, [2] * 12), [])

    def test_too_many_steps(self):
        error = (TooMany, {"what": "steps", "most": 12})
        for steps in ([1] * 13, [1] * 50, [0] * 13, [1] * 12 + [-1]):
            self.assertEqual(caught(degrees, Bench(), steps), error)

    def test_wrong_steps(self):
        for steps, step in (([0], 0), ([-1], -1), ([1, -5, 0], -5), ([1] * 11 + [0], 0), ([2, 0, -1], 0)):
            self.assertEqual(caught(degrees, Bench(), steps), (BadStep, {"step": step}))
            self.assertEqual(caught(degrees, Bench.of(("a", "b", 1)), steps), (BadStep, {"step": step}))

    def test_nothing_changes(self):
        bench = Bench.of(("a", "b", 3), limit=1)
        bench.undo()
        before = told(bench)
        steps = [1, 2]
        degrees(bench, steps).append(7)
        self.assertEqual((told(bench), steps), (before, [1, 2]))


if __name__ == "__main__":
    unittest.main()
