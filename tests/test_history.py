"""Deeds undone and redone, and benches made of others (points 1, 16 and 17)."""

import itertools
import string
import unittest

from forkbeats.bench import Bench, joined
from forkbeats.errors import (
    BadCount, BadLimit, BadName, NothingToRedo, NothingToUndo, RepeatedFork, TooMany, UnknownFork,
)
from forkbeats.facts import Above, Fact, Highest, InTune, Trio
from tests.helpers import caught, told, undone

TEN = list(string.ascii_lowercase[:10])
MOST = Fact.MOST_COUNT
NOTHING_TO_UNDO = (NothingToUndo, {})
NOTHING_TO_REDO = (NothingToRedo, {})

# Deeds that can be done one after another, each with its text.
DEEDS = [
    (lambda bench: bench.add("c", "a"), "add c a"),
    (lambda bench: bench.change("limit", 2), "limit 2"),
    (lambda bench: bench.add("b"), "add b"),
    (lambda bench: bench.strike("b", "a", 7), "strike b a 7"),
    (lambda bench: bench.tell(~Above("a", "b")), "tell not (above a b)"),
    (lambda bench: bench.add(), "add"),
    (lambda bench: bench.strike("a", "b", 0), "strike a b 0"),
    (lambda bench: setattr(bench, "limit", 2), "limit 2"),
    (lambda bench: bench.tell(Highest("c")), "tell highest c"),
    (lambda bench: bench.change("limit", 0), "limit 0"),
    (lambda bench: bench.strike("c", "b", 1000000000), "strike c b 1000000000"),
    (lambda bench: bench.tell(Trio("a", "b", "c", beats=(2, 1, 0))), "tell trio a b c 0 1 2"),
]
TEXTS = [text for _, text in DEEDS]


def visible(bench):
    """Return what a bench tells, but for its undone deeds."""
    return told(bench)[:-1]


def done(many=len(DEEDS), limit=1):
    """Return a bench on which the first of the deeds are done."""
    bench = Bench(limit)
    for act, _ in DEEDS[:many]:
        act(bench)
    return bench


def crowd(*names, strikes=0, facts=0, limit=0):
    """Return a bench with these forks, so many strikes of the first two, and facts about the first."""
    bench = Bench(limit)
    bench.add(*names)
    for at in range(strikes):
        bench.strike(names[0], names[1], at)
    for _ in range(facts):
        bench.tell(Highest(names[0]))
    return bench


class HistoryTest(unittest.TestCase):
    def test_the_texts_of_the_deeds_oldest_first(self):
        for many in range(len(DEEDS) + 1):
            self.assertEqual(done(many).history(), TEXTS[:many])

    def test_the_creation_is_no_deed(self):
        self.assertEqual(Bench(3).history(), [])
        self.assertEqual(caught(Bench(3).undo), NOTHING_TO_UNDO)
        self.assertEqual(caught(Bench(3).redo), NOTHING_TO_REDO)

    def test_a_refused_call_is_no_deed(self):
        bench = done()
        caught(bench.add, "a")
        caught(bench.strike, "a", "b", -1)
        caught(bench.tell, Above("x", "a"))
        caught(bench.change, "limit", 4)
        self.assertEqual((bench.history(), undone(bench)), (TEXTS, []))


class UndoTest(unittest.TestCase):
    def test_each_deed_is_undone_and_redone(self):
        for at, (act, text) in enumerate(DEEDS):
            bench = done(at)
            before = visible(bench)
            act(bench)
            after = visible(bench)
            self.assertEqual((bench.undo(), visible(bench)), (text, before))
            self.assertEqual((bench.redo(), visible(bench)), (text, after))
            self.assertEqual((bench.undo(), visible(bench)), (text, before))

    def test_all_deeds_are_undone_and_redone(self):
        states = [visible(done(many)) for many in range(len(DEEDS) + 1)]
        bench = done()
        for _ in range(2):
            for at in reversed(range(len(DEEDS))):
                self.assertEqual(bench.undo(), TEXTS[at])
                self.assertEqual(told(bench), (*states[at], TEXTS[at:]))
            self.assertEqual(caught(bench.undo), NOTHING_TO_UNDO)
            self.assertEqual(told(bench), (*states[0], TEXTS))
            for at in range(len(DEEDS)):
                self.assertEqual(bench.redo(), TEXTS[at])
                self.assertEqual(told(bench), (*states[at + 1], TEXTS[at + 1:]))
            self.assertEqual(caught(bench.redo), NOTHING_TO_REDO)
            self.assertEqual(told(bench), (*states[-1], []))

    def test_undo_and_redo_mixed(self):
        states = [visible(done(many)) for many in range(len(DEEDS) + 1)]
        bench, at = done(), len(DEEDS)
        for step in "uuuruurrruuuuruuruuurrrr":
            at += 1 if step == "r" else -1
            text = bench.redo() if step == "r" else bench.undo()
            self.assertEqual(text, TEXTS[at - 1 if step == "r" else at])
            self.assertEqual(told(bench), (*states[at], TEXTS[at:]))

    def test_a_new_deed_forgets_the_undone_ones(self):
        for act, text in [
            (lambda bench: bench.add(), "add"), (lambda bench: bench.add("x"), "add x"),
            (lambda bench: bench.strike("a", "b", 3), "strike a b 3"),
            (lambda bench: bench.tell(InTune("b", "a")), "tell intune b a"),
            (lambda bench: bench.change("limit", bench.limit), "limit 2"),
            (lambda bench: setattr(bench, "limit", bench.limit), "limit 2"),
        ]:
            bench = done(8)
            for _ in range(3):
                bench.undo()
            self.assertEqual(undone(bench), TEXTS[5:8])
            act(bench)
            self.assertEqual((bench.history(), undone(bench)), (TEXTS[:5] + [text], []))
            self.assertEqual(caught(bench.redo), NOTHING_TO_REDO)
            self.assertEqual([bench.undo(), bench.undo()], [text, TEXTS[4]])
            self.assertEqual(undone(bench), [TEXTS[4], text])

    def test_doing_the_undone_deed_itself_forgets_it_too(self):
        bench = done(4)
        bench.undo()
        bench.undo()
        DEEDS[2][0](bench)
        self.assertEqual((bench.history(), undone(bench)), (TEXTS[:3], []))

    def test_a_refused_call_forgets_no_undone_deed(self):
        bench = done(8)
        for _ in range(3):
            bench.undo()
        before = told(bench)
        for act, args in [
            (bench.add, ("a",)), (bench.add, ("A",)), (bench.add, TEN), (bench.strike, ("a", "x", 1)),
            (bench.strike, ("a", "a", 1)), (bench.strike, ("a", "b", -1)), (bench.tell, (Above("a", "x"),)),
            (bench.tell, (Above("a", "c"),)), (bench.change, ("limit", 4)), (bench.change, ("word", 1)),
            (setattr, (bench, "limit", -1)),
        ]:
            caught(act, *args)
            self.assertEqual(told(bench), before)
        self.assertEqual(undone(bench), TEXTS[5:8])

    def test_a_failed_undo_or_redo_forgets_nothing(self):
        bench = done(2)
        self.assertEqual(caught(bench.redo), NOTHING_TO_REDO)
        self.assertEqual(bench.history(), TEXTS[:2])
        bench.undo()
        bench.undo()
        self.assertEqual(caught(bench.undo), NOTHING_TO_UNDO)
        self.assertEqual(undone(bench), TEXTS[:2])

    def test_room_comes_back(self):
        bench = crowd(*TEN, strikes=20, facts=12)
        bench.undo()
        self.assertEqual(bench.tell(Highest("b")), 11)
        for _ in range(13):
            bench.undo()
        self.assertEqual(bench.strike("c", "d", 1), 19)
        for _ in range(21):
            bench.undo()
        bench.add("z")
        self.assertEqual((bench.forks(), bench.history()), (["z"], ["add z"]))

    def test_forks_that_are_undone_are_unknown(self):
        bench = done(3)
        bench.undo()
        self.assertEqual(caught(bench.strike, "a", "b", 1), (UnknownFork, {"name": "b"}))
        bench.redo()
        self.assertEqual(caught(bench.add, "b"), (RepeatedFork, {"name": "b"}))


class OfTest(unittest.TestCase):
    def test_without_strikes(self):
        self.assertEqual(told(Bench.of()), ([], [], [], 0, 0, [], []))
        self.assertEqual(told(Bench.of(limit=3)), ([], [], [], 3, 0, [], []))

    def test_new_and_known_forks(self):
        bench = Bench.of(("b", "a", 4), ("a", "c", 0), ("d", "b", 2), ("c", "d", 1), ("e", "f", MOST))
        self.assertIs(type(bench), Bench)
        self.assertEqual(told(bench), (
            ["b", "a", "c", "d", "e", "f"],
            [("b", "a", 4), ("a", "c", 0), ("d", "b", 2), ("c", "d", 1), ("e", "f", MOST)],
            [], 0, 1,
            ["add b", "add a", "strike b a 4", "add c", "strike a c 0", "add d", "strike d b 2", "strike c d 1",
             "add e", "add f", "strike e f 1000000000"],
            [],
        ))

    def test_with_a_limit(self):
        for limit in range(4):
            bench = Bench.of(("a", "b", 4), limit=limit)
            self.assertEqual((bench.limit, bench.history()), (limit, ["add a", "add b", "strike a b 4"]))

    def test_the_errors_of_the_calls(self):
        for rows, kind, attributes in [
            ([("a", "a", 1)], RepeatedFork, {"name": "a"}),
            ([("a", "b", 1), ("b", "b", 1)], RepeatedFork, {"name": "b"}),
            ([("a", "a", -1)], RepeatedFork, {"name": "a"}),
            ([("A", "b", 1)], BadName, {"name": "A"}),
            ([("b", "A", 1)], BadName, {"name": "A"}),
            ([("B", "A", -1)], BadName, {"name": "B"}),
            ([("a", "b", 1), ("b", "", 1)], BadName, {"name": ""}),
            ([("a", "b", -1)], BadCount, {"count": -1}),
            ([("a", "b", MOST + 1)], BadCount, {"count": MOST + 1}),
            ([("a", "b", 1), ("b", "a", -2), ("A", "b", 1)], BadCount, {"count": -2}),
            ([("a", "b", 1)] * 21, TooMany, {"what": "strikes", "most": 20}),
            ([*zip("abcdefghij", "bcdefghijk", range(10))], TooMany, {"what": "forks", "most": 10}),
        ]:
            self.assertEqual(caught(Bench.of, *rows), (kind, attributes))

    def test_the_greatest_numbers(self):
        rows = [(TEN[at % 9], TEN[at % 9 + 1], at) for at in range(20)]
        bench = Bench.of(*rows)
        self.assertEqual((bench.forks(), bench.strikes()), (TEN, rows))

    def test_the_creation_comes_first(self):
        for value in [-1, 4]:
            self.assertEqual(caught(Bench.of, limit=value), (BadLimit, {"value": value}))
            self.assertEqual(caught(Bench.of, ("A", "b", -1), limit=value), (BadLimit, {"value": value}))


class TwinTest(unittest.TestCase):
    def test_a_twin_is_the_same(self):
        for many in range(len(DEEDS) + 1):
            for back in range(many + 1):
                bench = done(many)
                for _ in range(back):
                    bench.undo()
                twin = bench.twin()
                self.assertIsNot(twin, bench)
                self.assertIs(type(twin), Bench)
                self.assertEqual(told(twin), told(bench))

    def test_undone_deeds_can_be_redone_and_old_ones_undone_on_the_twin(self):
        bench = done()
        for _ in range(4):
            bench.undo()
        before = told(bench)
        twin = bench.twin()
        self.assertEqual([twin.redo() for _ in range(4)], TEXTS[-4:])
        self.assertEqual([twin.undo() for _ in DEEDS], TEXTS[::-1])
        self.assertEqual((twin.forks(), twin.limit), ([], 1))
        self.assertEqual(told(bench), before)

    def test_later_deeds_have_no_effect_on_the_other(self):
        acts = [
            lambda bench: bench.add("x"), lambda bench: bench.strike("a", "b", 3), lambda bench: bench.undo(),
            lambda bench: bench.tell(InTune("a", "b")), lambda bench: bench.change("limit", 3),
            lambda bench: bench.redo(),
        ]
        for act, swapped in itertools.product(acts, [False, True]):
            bench = done(6)
            bench.undo()
            pair = [bench, bench.twin()]
            one, other = pair[::-1] if swapped else pair
            before = told(other)
            act(one)
            self.assertNotEqual(told(one), before)
            self.assertEqual(told(other), before)

    def test_a_twin_of_a_new_bench(self):
        self.assertEqual(told(Bench(2).twin()), ([], [], [], 2, 0, [], []))


class JoinedTest(unittest.TestCase):
    def test_forks_in_common(self):
        first = Bench.of(("c", "a", 4), ("a", "b", 1))
        second = Bench.of(("d", "a", 3), ("b", "c", 2), ("e", "d", 0))
        first.tell(Above("a", "b"))
        first.tell(InTune("c", "b"))
        second.tell(~Above("a", "d"))
        self.assertEqual(told(joined(first, second)), (
            ["c", "a", "b", "d", "e"],
            [("c", "a", 4), ("a", "b", 1), ("d", "a", 3), ("b", "c", 2), ("e", "d", 0)],
            ["above a b", "intune c b", "not (above a d)"],
            0, 1,
            ["add c a b d e", "strike c a 4", "strike a b 1", "strike d a 3", "strike b c 2", "strike e d 0",
             "tell above a b", "tell intune c b", "tell not (above a d)"],
            [],
        ))
        self.assertEqual(joined(second, first).forks(), ["d", "a", "b", "c", "e"])
        self.assertEqual(joined(second, first).facts(), ["not (above a d)", "above a b", "intune c b"])

    def test_no_forks_in_common(self):
        bench = joined(Bench.of(("b", "a", 4)), Bench.of(("d", "c", 3)))
        self.assertEqual(bench.history(), ["add b a d c", "strike b a 4", "strike d c 3"])

    def test_empty_benches(self):
        bench = Bench.of(("b", "a", 4))
        self.assertEqual(joined(Bench(), Bench()).history(), ["add"])
        self.assertEqual(joined(bench, Bench()).history(), ["add b a", "strike b a 4"])
        self.assertEqual(joined(Bench(), bench).history(), ["add b a", "strike b a 4"])

    def test_a_bench_with_itself(self):
        bench = done(5)
        before = told(bench)
        both = joined(bench, bench)
        self.assertEqual(
            both.history(),
            ["add c a b", "strike b a 7", "strike b a 7", "tell not (above a b)", "tell not (above a b)"])
        self.assertEqual(both.limit, 2)
        self.assertEqual(told(bench), before)

    def test_the_greater_limit(self):
        for low, high in itertools.product(range(4), repeat=2):
            bench = joined(crowd("a", limit=low), crowd("b", limit=high))
            self.assertEqual((bench.limit, bench.history()), (max(low, high), ["add a b"]))
            bench.undo()
            self.assertEqual(bench.limit, max(low, high))
            self.assertEqual(caught(bench.undo), NOTHING_TO_UNDO)

    def test_the_limit_in_force_counts(self):
        first, second = Bench(3), Bench(1)
        first.change("limit", 0)
        second.limit = 2
        second.undo()
        self.assertEqual(joined(first, second).limit, 1)

    def test_both_benches_stay(self):
        first, second = done(), Bench.of(("x", "a", 1), ("a", "y", 2))
        first.undo()
        first.undo()
        second.undo()
        before = told(first), told(second)
        bench = joined(first, second)
        self.assertEqual(undone(bench), [])
        self.assertEqual((told(first), told(second)), before)
        bench.add("z")
        bench.strike("z", "a", 3)
        bench.tell(Above("z", "a"))
        self.assertEqual((told(first), told(second)), before)
        after = told(bench)
        first.redo()
        second.redo()
        second.strike("x", "y", 4)
        self.assertEqual(told(bench), after)

    def check_too_many(self, first, second, what, most):
        """Check that the benches cannot be joined, and that both stay."""
        before = told(first), told(second)
        self.assertEqual(caught(joined, first, second), (TooMany, {"what": what, "most": most}))
        self.assertEqual((told(first), told(second)), before)

    def test_too_many_forks(self):
        self.assertEqual(len(joined(crowd(*TEN[:6]), crowd(*TEN[5:])).forks()), 10)
        self.assertEqual(joined(crowd(*TEN), crowd(*TEN[::-1])).forks(), TEN)
        self.check_too_many(crowd(*TEN[:6]), crowd(*"fghijk"), "forks", 10)
        self.check_too_many(crowd(*TEN), crowd("z"), "forks", 10)

    def test_too_many_strikes(self):
        self.assertEqual(len(joined(crowd("a", "b", strikes=12), crowd("b", "c", strikes=8)).strikes()), 20)
        self.check_too_many(crowd("a", "b", strikes=12), crowd("b", "c", strikes=9), "strikes", 20)
        self.check_too_many(crowd("a", "b", strikes=1), crowd("a", "b", strikes=20), "strikes", 20)

    def test_too_many_facts(self):
        self.assertEqual(len(joined(crowd("a", facts=7), crowd("b", facts=5)).facts()), 12)
        self.check_too_many(crowd("a", facts=7), crowd("b", facts=6), "facts", 12)
        self.check_too_many(crowd("a", facts=12), crowd("a", facts=1), "facts", 12)

    def test_the_first_of_these_errors(self):
        first = crowd(*TEN, strikes=20, facts=12)
        second = crowd("x", "y", strikes=1, facts=1)
        self.check_too_many(first, second, "forks", 10)
        self.check_too_many(first, crowd("a", "b", strikes=1, facts=1), "strikes", 20)
        self.check_too_many(first, crowd("a", "b", facts=1), "facts", 12)


if __name__ == "__main__":
    unittest.main()
