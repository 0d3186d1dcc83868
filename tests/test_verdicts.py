"""What all fittings have in common, and trials (points 1, 2 and 30 to 33)."""

import itertools
import random
import string
import unittest

from forkbeats.bench import Bench
from forkbeats.certificates import checks
from forkbeats.errors import (
    Apart, BadName, ForkError, NoFitting, NothingToRedo, RepeatedFork, TooMany, UnknownFork,
)
from forkbeats.facts import Above, AsOften, Between, Highest, InTune
from forkbeats.tunings import Tuning
from forkbeats.verdicts import (
    Trial, attempt, least_limit, possible_beats, sounds, suppose, sure_above, sure_beats, sure_between, surely_off,
    verdict,
)
from tests.helpers import caught, told
from tests.plain import all_benches, all_rows, firsts, plain_check, plain_rows, reached, some_fact

TEN = list(string.ascii_lowercase[:10])
NO_FITTING = (NoFitting, {})


def triangle(*facts, limit=0):
    """Return a bench with two fittings, if no fact forbids one."""
    bench = Bench.of(("a", "b", 1), ("b", "c", 2), ("c", "a", 3), limit=limit)
    for fact in facts:
        bench.tell(fact)
    return bench


def wrong(limit=0):
    """Return a bench without fittings, in two pieces and with a fork of its own."""
    bench = Bench.of(("a", "b", 1), ("b", "a", 5), ("c", "d", 1), limit=limit)
    bench.add("e")
    return bench


class VerdictTest(unittest.TestCase):
    def assert_word(self, bench, question, word):
        """Check the word and the tree that belongs to it."""
        found = verdict(bench, question)
        self.assertIsInstance(found, tuple)
        first, tree = found
        self.assertEqual(first, word)
        asked = None if word == "none" else question
        self.assertTrue(checks(bench, asked, tree, holds=word != "never"))
        self.assertTrue(plain_check(bench, asked, tree, word != "never"))

    def test_none(self):
        for question in (Above("a", "b"), Highest("a"), ~Highest("b"), InTune("c", "d")):
            self.assert_word(wrong(), question, "none")
            self.assert_word(wrong(3), question, "none")
        self.assert_word(triangle(Above("a", "b"), Above("b", "a")), Above("a", "b"), "none")

    def test_sure(self):
        self.assert_word(triangle(), Between("a", "b", "c"), "sure")
        self.assert_word(triangle(Above("a", "b")), Above("b", "c"), "sure")
        self.assert_word(triangle(limit=2), AsOften("a", "b", "b", "a"), "sure")
        self.assert_word(triangle(), Highest("a"), "sure")

    def test_never(self):
        self.assert_word(triangle(), Between("b", "a", "c"), "never")
        self.assert_word(triangle(Above("a", "b")), Above("c", "a"), "never")
        self.assert_word(triangle(), ~Highest("a"), "never")

    def test_open(self):
        self.assertEqual(verdict(triangle(), Above("a", "c")), ("open", (0, -1, -3), (0, 1, 3)))
        self.assertEqual(verdict(triangle(), ~Above("a", "c")), ("open", (0, 1, 3), (0, -1, -3)))

    def test_the_first_fittings_that_differ(self):
        bench = Bench.of(("a", "b", 1), ("b", "c", 2))
        self.assert_word(bench, Between("a", "c", "b"), "never")
        self.assertEqual(verdict(bench, Between("b", "a", "c")), ("open", (0, -1, 1), (0, -1, -3)))
        self.assertEqual(verdict(bench, Above("c", "a")), ("open", (0, -1, 1), (0, -1, -3)))

    def test_all_benches(self):
        source = random.Random(30)
        for bench, rows in zip(all_benches(), all_rows()):
            for name in bench.forks()[:2]:
                question = some_fact(source, reached(bench, name))
                says = [question(Tuning(bench.forks(), row)) for row in rows]
                if True in says and False in says:
                    expected = ("open", rows[says.index(True)], rows[says.index(False)])
                    self.assertEqual(verdict(bench, question), expected)
                else:
                    self.assert_word(bench, question, "none" if not says else "sure" if says[0] else "never")

    def test_errors_of_the_question(self):
        for bench in (Bench.of(("a", "b", 1), ("c", "d", 2)), wrong()):
            for question, error in (
                (Above("a", "z"), (UnknownFork, {"name": "z"})),
                (Highest("not"), (UnknownFork, {"name": "not"})),
                (Between("a", "c", "z"), (UnknownFork, {"name": "z"})),
                (Between("a", "b", "d"), (Apart, {"first": "a", "second": "d"})),
            ):
                self.assertEqual(caught(verdict, bench, question), error)
                self.assertEqual(caught(suppose, bench, question), error)
        self.assertEqual(caught(verdict, Bench(), Highest("a")), (UnknownFork, {"name": "a"}))


class PossibleBeatsTest(unittest.TestCase):
    def test_two_forks(self):
        bench = Bench.of(("a", "b", 1), ("b", "c", 2), ("c", "d", 2))
        self.assertEqual(possible_beats(bench, "a", "b"), [1])
        self.assertEqual(possible_beats(bench, "c", "a"), [1, 3])
        self.assertEqual(possible_beats(bench, "a", "d"), [1, 3, 5])
        self.assertEqual(possible_beats(bench, "d", "b"), [0, 4])
        self.assertEqual(possible_beats(triangle(limit=1), "a", "c"), [3])
        self.assertEqual(possible_beats(triangle(limit=2), "a", "c"), [2, 3, 4])

    def test_a_fork_with_itself(self):
        self.assertEqual(possible_beats(triangle(), "b", "b"), [0])
        bench = Bench()
        bench.add("a")
        self.assertEqual(possible_beats(bench, "a", "a"), [0])
        self.assertEqual(caught(possible_beats, wrong(), "a", "a"), NO_FITTING)

    def test_all_benches(self):
        for bench, rows in zip(all_benches(), all_rows()):
            for a, b in itertools.product(bench.forks(), repeat=2):
                first, second = bench.forks().index(a), bench.forks().index(b)
                if b not in reached(bench, a):
                    self.assertEqual(caught(possible_beats, bench, a, b), (Apart, {"first": a, "second": b}))
                elif rows:
                    found = sorted({abs(row[first] - row[second]) for row in rows})
                    self.assertEqual(possible_beats(bench, a, b), found)
                else:
                    self.assertEqual(caught(possible_beats, bench, a, b), NO_FITTING)

    def test_errors_in_their_order(self):
        for bench in (wrong(), Bench.of(("a", "b", 1), ("c", "d", 1))):
            self.assertEqual(caught(possible_beats, bench, "x", "y"), (UnknownFork, {"name": "x"}))
            self.assertEqual(caught(possible_beats, bench, "a", "y"), (UnknownFork, {"name": "y"}))
            self.assertEqual(caught(possible_beats, bench, "A", "A"), (UnknownFork, {"name": "A"}))
            self.assertEqual(caught(possible_beats, bench, "d", "b"), (Apart, {"first": "d", "second": "b"}))
        self.assertEqual(caught(possible_beats, wrong(), "c", "d"), NO_FITTING)
        self.assertEqual(caught(possible_beats, Bench(), "a", "a"), (UnknownFork, {"name": "a"}))


class SureTest(unittest.TestCase):
    def test_sure_beats(self):
        self.assertEqual(sure_beats(triangle()), [("a", "b", 1), ("a", "c", 3), ("b", "c", 2)])
        bench = Bench.of(("c", "a", 1), ("a", "b", 2), ("b", "d", 0))
        self.assertEqual(sure_beats(bench), [("c", "a", 1), ("a", "b", 2), ("a", "d", 2), ("b", "d", 0)])
        self.assertEqual(sure_beats(Bench.of(("a", "b", 1), limit=1)), [])

    def test_sure_above(self):
        self.assertEqual(sure_above(triangle()), [])
        self.assertEqual(sure_above(triangle(Above("c", "b"))), [("b", "a"), ("c", "a"), ("c", "b")])
        bench = triangle(Above("a", "b"))
        self.assertEqual(sure_above(bench), [("a", "b"), ("a", "c"), ("b", "c")])

    def test_sure_between(self):
        self.assertEqual(sure_between(triangle()), [("a", "b", "c")])
        bench = Bench()
        bench.add("d", "c", "b", "a")
        for a, b, count in (("a", "b", 1), ("b", "c", 1), ("c", "d", 1), ("a", "d", 3)):
            bench.strike(a, b, count)
        self.assertEqual(
            sure_between(bench), [("d", "c", "b"), ("d", "c", "a"), ("d", "b", "a"), ("c", "b", "a")])
        self.assertEqual(sure_between(Bench.of(("a", "b", 0), ("b", "c", 0))), [])

    def test_surely_off(self):
        self.assertEqual(surely_off(triangle(limit=3)), [])
        self.assertEqual(surely_off(Bench.of(("a", "b", 0), ("a", "b", 2), limit=2)), [0, 1])
        bench = Bench.of(("a", "b", 3), ("b", "a", 4), ("b", "c", 1), limit=1)
        self.assertEqual(surely_off(bench), [])
        bench.strike("a", "b", 4)
        self.assertEqual(surely_off(bench), [0])
        bench = Bench.of(("a", "b", 0), limit=1)
        bench.tell(~InTune("a", "b"))
        self.assertEqual(surely_off(bench), [0])

    def test_only_forks_of_one_piece(self):
        bench = Bench.of(("a", "d", 1), ("b", "c", 0))
        bench.add("e")
        bench.tell(Above("d", "a"))
        self.assertEqual(sure_beats(bench), [("a", "d", 1), ("b", "c", 0)])
        self.assertEqual(sure_above(bench), [("d", "a")])
        self.assertEqual(sure_between(bench), [])

    def test_without_forks_and_with_one(self):
        one = Bench()
        one.add("a")
        for bench in (Bench(), one):
            for ask in (sure_beats, sure_above, sure_between, surely_off):
                self.assertEqual(ask(bench), [])
        one.tell(~Highest("a"))
        for bench in (one, wrong(), wrong(2)):
            for ask in (sure_beats, sure_above, sure_between, surely_off):
                self.assertEqual(caught(ask, bench), NO_FITTING)

    def test_all_benches(self):
        for bench, rows in zip(all_benches(), all_rows()):
            if not rows:
                for ask in (sure_beats, sure_above, sure_between, surely_off):
                    self.assertEqual(caught(ask, bench), NO_FITTING)
                continue
            names = bench.forks()
            tunings = [Tuning(names, row) for row in rows]
            pairs = [(a, b) for a in names for b in names if a != b and b in reached(bench, a)]
            self.assertEqual(sure_above(bench), [pair for pair in pairs if all(Above(*pair)(row) for row in tunings)])
            self.assertEqual(sure_beats(bench), [
                (a, b, tunings[0].beats(a, b)) for a, b in pairs
                if names.index(a) < names.index(b) and len({row.beats(a, b) for row in tunings}) == 1])
            self.assertEqual(sure_between(bench), [
                (a, b, c) for a, b in pairs for c in names[names.index(a) + 1:]
                if c != b and c in reached(bench, a) and all(Between(a, b, c)(row) for row in tunings)])
            self.assertEqual(surely_off(bench), [
                at for at, (a, b, count) in enumerate(bench.strikes())
                if all(row.beats(a, b) != count for row in tunings)])

    def test_the_kinds_of_the_answers(self):
        bench = triangle(Above("a", "b"))
        for ask in (possible_beats, sure_beats, sure_above, sure_between, surely_off):
            found = ask(bench, "a", "c") if ask == possible_beats else ask(bench)
            self.assertIsInstance(found, list)
            found.append("more")
            self.assertNotIn("more", ask(bench, "a", "c") if ask == possible_beats else ask(bench))
        for ask in (sure_beats, sure_above, sure_between):
            self.assertTrue(all(isinstance(item, tuple) for item in ask(bench)))


class SoundsTest(unittest.TestCase):
    def test_the_fewest_and_the_most(self):
        self.assertEqual(sounds(triangle()), (3, 3))
        self.assertEqual(sounds(Bench.of(("a", "b", 1), ("b", "c", 1))), (2, 3))
        self.assertEqual(sounds(Bench.of(("a", "b", 0), ("b", "c", 0), limit=2)), (1, 3))
        self.assertIsInstance(sounds(triangle()), tuple)

    def test_without_forks_and_with_one(self):
        self.assertEqual(sounds(Bench()), (0, 0))
        bench = Bench()
        bench.add("b")
        self.assertEqual(sounds(bench), (1, 1))

    def test_several_pieces(self):
        bench = Bench()
        bench.add("e", "b", "a", "c")
        self.assertEqual(caught(sounds, bench), (Apart, {"first": "e", "second": "b"}))
        bench.strike("a", "e", 1)
        bench.strike("e", "b", 1)
        self.assertEqual(caught(sounds, bench), (Apart, {"first": "e", "second": "c"}))

    def test_pieces_come_before_fittings(self):
        self.assertEqual(caught(sounds, wrong()), (Apart, {"first": "a", "second": "c"}))
        self.assertEqual(caught(sounds, Bench.of(("a", "b", 1), ("b", "a", 5))), NO_FITTING)

    def test_all_benches(self):
        for bench, rows in zip(all_benches(), all_rows()):
            if len(firsts(bench)) > 1:
                first, second = firsts(bench)[:2]
                self.assertEqual(caught(sounds, bench), (Apart, {"first": first, "second": second}))
            elif not rows:
                self.assertEqual(caught(sounds, bench), NO_FITTING)
            else:
                many = sorted(len(set(row)) for row in rows)
                self.assertEqual(sounds(bench), (many[0], many[-1]))


class LeastLimitTest(unittest.TestCase):
    def assert_least(self, bench, limit, pitches):
        """Check the answer for the bench, whatever its own limit is."""
        for own in range(4):
            bench = bench.twin()
            bench.limit = own
            bench.limit = 1
            bench.undo()
            before = told(bench)
            found = least_limit(bench)
            self.assertIsInstance(found, tuple)
            self.assertEqual(found[:2], (limit, pitches))
            self.assertEqual(told(bench), before)
            if limit == 0:
                self.assertIsNone(found[2])
                continue
            bench.limit = 3 if limit is None else limit - 1
            self.assertTrue(checks(bench, None, found[2]))
            self.assertTrue(plain_check(bench, None, found[2]))

    def test_each_limit_and_none(self):
        self.assert_least(triangle(), 0, (0, -1, -3))
        self.assert_least(triangle(Above("b", "a")), 0, (0, 1, 3))
        self.assert_least(Bench.of(("a", "b", 0), ("a", "b", 1)), 1, (0, -1))
        self.assert_least(Bench.of(("a", "b", 0), ("a", "b", 2)), 2, (0, -1))
        self.assert_least(Bench.of(("a", "b", 0), ("c", "d", 3), ("a", "b", 2), ("d", "c", 4)), 3, (0, -1, 0, -4))
        self.assert_least(wrong(), None, None)
        self.assert_least(triangle(Above("a", "b"), Above("b", "a")), None, None)
        self.assert_least(Bench.of(*[("a", "b", 2 * at) for at in (1, 2, 1, 2)]), None, None)

    def test_small_benches(self):
        self.assert_least(Bench(), 0, ())
        bench = Bench()
        bench.add("c")
        self.assert_least(bench, 0, (0,))
        bench.tell(~Highest("c"))
        self.assert_least(bench, None, None)

    def test_all_benches(self):
        for bench in all_benches()[1::3]:
            if len(bench.strikes()) < 5:
                found = [(limit, plain_rows(bench, limit)) for limit in range(4)]
                found = [(limit, rows[0]) for limit, rows in found if rows]
                self.assert_least(bench, *(found + [(None, None)])[0])

    def test_a_fact_that_needs_wrong_counts(self):
        bench = triangle(Above("b", "a"), limit=3)
        bench.tell(AsOften("a", "b", "b", "c"))
        self.assert_least(bench, 2, (0, 1, 2))


def busy(limit=1):
    """Return a bench with deeds and undone deeds of each kind."""
    bench = Bench(limit)
    bench.add("a", "b", "c")
    bench.strike("a", "b", 1)
    bench.tell(~Above("b", "a"))
    bench.limit = 2
    bench.add("d")
    bench.strike("c", "d", 4)
    bench.limit = 0
    for _ in range(3):
        bench.undo()
    return bench


def upset(bench):
    """Change everything of a bench."""
    bench.undo()
    bench.redo()
    bench.redo()
    bench.undo()
    bench.undo()
    bench.undo()
    bench.strike("b", "c", 7)
    bench.limit = 3
    bench.add("z", "y")
    bench.tell(Above("a", "c"))
    bench.undo()


class TrialTest(unittest.TestCase):
    def test_a_block_that_is_left_normally(self):
        bench = busy()
        before = told(bench)
        with Trial(bench) as held:
            self.assertIs(held, bench)
            self.assertEqual(told(bench), before)
            upset(held)
            self.assertEqual(bench.forks(), ["a", "b", "c", "z", "y"])
        self.assertEqual(told(bench), before)

    def test_a_block_that_is_left_by_an_error(self):
        for error in (NoFitting(), KeyError("k"), ZeroDivisionError(), KeyboardInterrupt()):
            bench = busy()
            before = told(bench)
            with self.assertRaises(type(error)) as seen:
                with Trial(bench):
                    upset(bench)
                    raise error
            self.assertIs(seen.exception, error)
            self.assertEqual(told(bench), before)

    def test_a_block_that_is_left_by_return_and_break(self):
        bench = busy()
        before = told(bench)

        def act():
            with Trial(bench):
                upset(bench)
                return bench.forks()

        self.assertEqual(act(), ["a", "b", "c", "z", "y"])
        self.assertEqual(told(bench), before)
        for _ in range(2):
            with Trial(bench):
                upset(bench)
                break
        self.assertEqual(told(bench), before)

    def test_deeds_go_on_afterwards(self):
        bench, other = busy(), busy()
        with Trial(bench):
            upset(bench)
        for deed in (
            lambda b: b.redo(), lambda b: b.undo(), lambda b: b.undo(), lambda b: b.redo(),
            lambda b: b.add("x"), lambda b: b.strike("x", "a", 3), lambda b: b.undo(),
        ):
            self.assertEqual(deed(bench), deed(other))
            self.assertEqual(told(bench), told(other))

    def test_a_trial_is_entered_again_after_its_block(self):
        bench = busy()
        trial = Trial(bench)
        bench.add("x")
        for name in ("y", "z"):
            bench.add(name)
            before = told(bench)
            with trial as held:
                self.assertIs(held, bench)
                held.add("w")
                held.undo()
                held.undo()
            self.assertEqual(told(bench), before)

    def test_a_trial_within_a_trial(self):
        bench = busy()
        before = told(bench)
        with Trial(bench):
            bench.add("x")
            within = told(bench)
            with Trial(bench):
                bench.undo()
                bench.undo()
            self.assertEqual(told(bench), within)
            bench.undo()
        self.assertEqual(told(bench), before)

    def test_a_twin_that_is_taken_within(self):
        bench = busy()
        with Trial(bench):
            bench.add("x")
            kept = bench.twin()
        self.assertEqual(kept.forks(), ["a", "b", "c", "x"])
        kept.add("y")
        self.assertEqual(told(bench), told(busy()))


class AttemptTest(unittest.TestCase):
    def test_what_the_call_returns(self):
        bench = busy()
        for value in (None, 0, [], False, "", (1, 2), bench):
            self.assertIs(attempt(bench, lambda held, value=value: value), value)
        self.assertIs(attempt(bench, lambda held: held), bench)
        self.assertEqual(attempt(bench, lambda held: held.strike("a", "c", 1)), 1)
        self.assertEqual(told(bench), told(busy()))

    def test_an_error_of_the_call(self):
        bench = busy()
        self.assertEqual(caught(attempt, bench, lambda held: (upset(held), held.redo(), held.redo())),
                         (NothingToRedo, {}))
        self.assertEqual(caught(attempt, bench, lambda held: held.add("x", "A")), (BadName, {"name": "A"}))
        with self.assertRaises(IndexError):
            attempt(bench, lambda held: [upset(held)][1])
        self.assertEqual(told(bench), told(busy()))

    def test_an_attempt_within_an_attempt(self):
        bench = busy()
        seen = []

        def inner(held):
            held.undo()
            held.undo()
            seen.append(told(held))
            held.redo()
            return held.history()

        def outer(held):
            held.add("x")
            before = told(held)
            found = attempt(held, inner)
            self.assertEqual(told(held), before)
            held.undo()
            held.redo()
            self.assertEqual(told(held), before)
            self.assertEqual(caught(attempt, held, lambda deep: deep.add("a")), (RepeatedFork, {"name": "a"}))
            return found

        found = attempt(bench, outer)
        self.assertEqual(found, ["add a b c", "strike a b 1", "tell not (above b a)", "limit 2"])
        self.assertEqual(seen[0][-1], ["limit 2", "add x"])
        self.assertEqual(told(bench), told(busy()))


class SupposeTest(unittest.TestCase):
    def test_each_word(self):
        bench = triangle()
        self.assertEqual(suppose(bench, Above("a", "c")), "open")
        self.assertEqual(suppose(bench, Above("a", "c"), Above("a", "b")), "sure")
        self.assertEqual(suppose(bench, Above("c", "a"), Above("a", "b")), "never")
        self.assertEqual(suppose(bench, Above("c", "a"), Above("a", "b"), Above("b", "a")), "none")
        self.assertEqual(told(bench), told(triangle()))

    def test_the_word_of_the_verdict(self):
        source = random.Random(33)
        for bench in all_benches()[::2]:
            for name in bench.forks()[:1]:
                question, fact = some_fact(source, reached(bench, name)), some_fact(source, reached(bench, name))
                self.assertEqual(suppose(bench, question), verdict(bench, question)[0])
                other = bench.twin()
                other.tell(fact)
                self.assertEqual(suppose(bench, question, fact), verdict(other, question)[0])

    def test_facts_that_are_refused(self):
        bench = busy()
        for question, facts, error in (
            (Above("a", "b"), [Above("a", "b"), Above("a", "z")], (UnknownFork, {"name": "z"})),
            (Above("y", "b"), [Above("b", "a"), InTune("b", "c")], (Apart, {"first": "b", "second": "c"})),
            (Above("y", "b"), [Above("b", "a")], (UnknownFork, {"name": "y"})),
            (Above("b", "c"), [], (Apart, {"first": "b", "second": "c"})),
            (Above("y", "b"), [Highest("a")] * 12, (TooMany, {"what": "facts", "most": 12})),
        ):
            self.assertEqual(caught(suppose, bench, question, *facts), error)
            self.assertEqual(told(bench), told(busy()))

    def test_the_bench_with_its_undone_deeds(self):
        bench = busy()
        self.assertEqual(suppose(bench, Above("a", "b"), ~InTune("a", "b")), "sure")
        self.assertEqual(suppose(bench, Above("a", "b")), "open")
        self.assertEqual(told(bench), told(busy()))
        self.assertEqual(suppose(bench, Above("a", "b"), *[Above("a", "b")] * 11), "sure")


class WholeTest(unittest.TestCase):
    def asks(self):
        """Return calls of all functions of a bench."""
        return [
            sure_beats, sure_above, sure_between, surely_off, sounds, least_limit,
            lambda bench: verdict(bench, Highest(*bench.forks()[:1])),
            lambda bench: possible_beats(bench, bench.forks()[0], bench.forks()[-1]),
            lambda bench: suppose(bench, Highest(bench.forks()[0]), Highest(bench.forks()[0])),
        ]

    def test_asking_changes_nothing(self):
        for bench in all_benches()[::4] + [wrong(), busy()]:
            if not bench.forks():
                continue
            bench = bench.twin()
            bench.limit = 3
            bench.undo()
            before = told(bench)
            for ask in self.asks():
                answers = []
                for asked in (bench, bench.twin()):
                    try:
                        answers.append(ask(asked))
                    except ForkError as error:
                        answers.append((type(error), vars(error)))
                self.assertEqual(answers[0], answers[1])
                self.assertEqual(told(bench), before)

    def test_names_that_are_words(self):
        bench = Bench.of(("above", "not", 1), ("not", "trio", 2), ("trio", "above", 3))
        self.assertEqual(sure_between(bench), [("above", "not", "trio")])
        self.assertEqual(verdict(bench, Above("not", "above"))[0], "open")
        self.assertEqual(suppose(bench, Above("not", "above"), Above("trio", "not")), "sure")

    def test_ten_forks(self):
        pairs = list(itertools.combinations(TEN, 2))[1::2][:20]
        bench = Bench.of(*[(a, b, abs(TEN.index(a) ** 2 - TEN.index(b) ** 2)) for a, b in pairs], limit=3)
        for a, b in pairs[:12]:
            bench.tell(Above(b, a))
        word, tree = verdict(bench, Highest("j", *TEN[:9]))
        self.assertEqual(word, "sure")
        self.assertTrue(plain_check(bench, Highest("j", *TEN[:9]), tree))
        self.assertEqual(len(sure_above(bench)), 45)
        self.assertEqual(len(sure_between(bench)), 120)
        squares = tuple(TEN.index(name) ** 2 - TEN.index(bench.forks()[0]) ** 2 for name in bench.forks())
        self.assertEqual(least_limit(bench), (0, squares, None))
        self.assertEqual(sounds(bench), (10, 10))


if __name__ == "__main__":
    unittest.main()
