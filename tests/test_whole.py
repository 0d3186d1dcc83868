"""What the document promises over the whole program (points 1 and 2)."""

import copy
import unittest

from forkbeats.bench import Bench, joined
from forkbeats.certificates import certificate, checks, rises
from forkbeats.desk import Desk, table
from forkbeats.drift import drifts
from forkbeats.errors import ForkError
from forkbeats.facts import Above, AsOften, Between, Highest
from forkbeats.fittings import (
    block_counts, count_fittings, count_shapes, fits, fittings, residues, shapes, turn_block,
)
from forkbeats.graph import blocks, cut_forks, part, pieces, walk
from forkbeats.notation import parse_fact
from forkbeats.plans import groups, next_pair, settling, strategy
from forkbeats.scales import degrees
from forkbeats.tunings import Tuning
from forkbeats.verdicts import (
    Trial, attempt, least_limit, possible_beats, sounds, suppose, sure_above, sure_beats, sure_between, surely_off,
    verdict,
)
from tests.helpers import caught, told
from tests.test_interface import FUNCTIONS

NO_FITTING = "NoFitting()"
NO_BLOCK = "NoBlock(index=0)"
UNKNOWN = "UnknownFork(name='a')"
APART = "Apart(first='a', second='c')"


def names_of(found):
    """Return the written forms of tunings."""
    return [str(tuning) for tuning in found]


def flat(bench):
    """Return the tuning of the forks of the bench in which all pitches are 0."""
    return Tuning(bench.forks(), [0] * len(bench.forks()))


# Each function that takes a bench, called with the fork a where it needs one, and the pair (a, last fork).
CALLS = {
    "joined": lambda bench: told(joined(bench, bench)),
    "pieces": pieces,
    "walk": lambda bench: walk(bench, "a", "a"),
    "blocks": blocks,
    "cut_forks": cut_forks,
    "part": lambda bench: told(part(bench, 0)),
    "fits": lambda bench: fits(bench, flat(bench)),
    "residues": lambda bench: residues(bench, flat(bench)),
    "fittings": lambda bench: names_of(fittings(bench)),
    "count_fittings": count_fittings,
    "shapes": lambda bench: names_of(shapes(bench)),
    "count_shapes": count_shapes,
    "turn_block": lambda bench: str(turn_block(bench, flat(bench), 0)),
    "block_counts": block_counts,
    "rises": lambda bench: rises(bench, 0),
    "certificate": lambda bench: certificate(bench, None),
    "checks": lambda bench: checks(bench, None, ("spent",)),
    "verdict": lambda bench: verdict(bench, Highest("a"))[0],
    "possible_beats": lambda bench: possible_beats(bench, "a", bench.forks()[-1] if bench.forks() else "b"),
    "sure_beats": sure_beats,
    "sure_above": sure_above,
    "sure_between": sure_between,
    "surely_off": surely_off,
    "sounds": sounds,
    "least_limit": lambda bench: least_limit(bench)[:2],
    "attempt": lambda bench: attempt(bench, lambda held: held.forks()),
    "suppose": lambda bench: suppose(bench, Highest("a"), Highest("a")),
    "groups": groups,
    "next_pair": next_pair,
    "settling": settling,
    "strategy": strategy,
    "degrees": lambda bench: degrees(bench, [1]),
    "drifts": lambda bench: drifts(bench, ["a"], [], most=0),
    "table": table,
}


def answered(call, bench):
    """Return the answer, or the error as it would be written."""
    try:
        return call(bench)
    except ForkError as error:
        return f"{type(error).__name__}({', '.join(f'{name}={value!r}' for name, value in vars(error).items())})"


def all_answers(bench):
    """Return the answers of all calls."""
    return {name: answered(call, bench) for name, call in CALLS.items()}


def lone():
    """Return a bench with one fork."""
    bench = Bench()
    bench.add("a")
    return bench


def wrong():
    """Return a bench without a fitting."""
    return Bench.of(("a", "b", 1), ("b", "a", 4))


def halved():
    """Return a bench in two pieces."""
    return Bench.of(("a", "b", 1), ("c", "d", 2))


class EveryFunctionTest(unittest.TestCase):
    def assert_answers(self, bench, **expected):
        """Check the answers of all calls, and that the bench stays."""
        before = told(bench)
        self.assertEqual(all_answers(bench), expected)
        self.assertEqual(told(bench), before)

    def test_every_function_that_takes_a_bench_is_called(self):
        takers = {name for functions in FUNCTIONS.values() for name, arguments in functions.items()
                  if arguments.startswith(("(bench", "(first, second)"))}
        self.assertEqual(takers - set(CALLS), {"alike_in_beats", "sums", "differences"})

    def test_without_forks(self):
        self.assert_answers(
            Bench(),
            joined=([], [], [], 0, 0, ["add"], []), pieces=[], walk=UNKNOWN, blocks=[], cut_forks=[], part=NO_BLOCK,
            fits=True, residues=[], fittings=[""], count_fittings=1, shapes=[""], count_shapes=1, turn_block=NO_BLOCK,
            block_counts=[], rises="NoStrike(index=0)", certificate=None, checks=False, verdict=UNKNOWN,
            possible_beats=UNKNOWN, sure_beats=[], sure_above=[], sure_between=[], surely_off=[], sounds=(0, 0),
            least_limit=(0, ()), attempt=[], suppose=UNKNOWN, groups=[((), [()])], next_pair=None, settling=[],
            strategy=("shape", ()), degrees=[()], drifts=UNKNOWN, table=[])

    def test_with_one_fork(self):
        self.assert_answers(
            lone(),
            joined=(["a"], [], [], 0, 0, ["add a"], []), pieces=[["a"]], walk=[], blocks=[], cut_forks=[],
            part=NO_BLOCK, fits=True, residues=[], fittings=["a=0"], count_fittings=1, shapes=["a=0"], count_shapes=1,
            turn_block=NO_BLOCK, block_counts=[], rises="NoStrike(index=0)", certificate=None, checks=False,
            verdict="sure", possible_beats=[0], sure_beats=[], sure_above=[], sure_between=[], surely_off=[],
            sounds=(1, 1), least_limit=(0, (0,)), attempt=["a"], suppose="sure", groups=[((), [(0,)])],
            next_pair=None, settling=[], strategy=("shape", (0,)), degrees=[(0,), (1,)], drifts=[(0, (0,))], table=[])

    def test_without_a_fitting(self):
        bench = wrong()
        tree = certificate(bench, None)
        self.assertTrue(checks(bench, None, tree))
        self.assert_answers(
            bench,
            joined=(["a", "b"], bench.strikes() * 2, [], 0, 3, ["add a b"] + bench.history()[2:] * 2, []),
            pieces=[["a", "b"]], walk=[], blocks=[[0, 1]], cut_forks=[],
            part=(["a", "b"], bench.strikes(), [], 0, 1, ["add a b"] + bench.history()[2:], []),
            fits=False, residues=[-1, -4], fittings=[], count_fittings=0, shapes=[], count_shapes=0,
            turn_block="a=0 b=0", block_counts=[0], rises=[-1, 1], certificate=tree, checks=False, verdict="none",
            possible_beats=NO_FITTING, sure_beats=NO_FITTING, sure_above=NO_FITTING, sure_between=NO_FITTING,
            surely_off=NO_FITTING, sounds=NO_FITTING, least_limit=(None, None), attempt=["a", "b"], suppose="none",
            groups=NO_FITTING, next_pair=NO_FITTING, settling=NO_FITTING, strategy=NO_FITTING, degrees=[], drifts=[],
            table=["  0 a            b                     1", "  1 b            a                     4"])

    def test_in_two_pieces(self):
        bench = halved()
        self.assert_answers(
            bench,
            joined=(["a", "b", "c", "d"], bench.strikes() * 2, [], 0, 2,
                    ["add a b c d"] + ["strike a b 1", "strike c d 2"] * 2, []),
            pieces=[["a", "b"], ["c", "d"]], walk=[], blocks=[[0], [1]], cut_forks=[],
            part=(["a", "b"], [("a", "b", 1)], [], 0, 0, ["add a b", "strike a b 1"], []),
            fits=False, residues=[-1, -2],
            fittings=["a=0 b=-1 c=0 d=-2", "a=0 b=-1 c=0 d=2", "a=0 b=1 c=0 d=-2", "a=0 b=1 c=0 d=2"],
            count_fittings=4, shapes=["a=0 b=-1 c=0 d=-2", "a=0 b=-1 c=0 d=2"], count_shapes=2,
            turn_block="a=0 b=0 c=0 d=0", block_counts=[2, 2], rises=[-1, 1], certificate=None, checks=False,
            verdict="sure", possible_beats="Apart(first='a', second='d')",
            sure_beats=[("a", "b", 1), ("c", "d", 2)], sure_above=[], sure_between=[], surely_off=[], sounds=APART,
            least_limit=(0, (0, -1, 0, -2)), attempt=["a", "b", "c", "d"], suppose="sure", groups=APART,
            next_pair=APART, settling=APART, strategy=APART, degrees=[], drifts=[(0, (0, -1, 0, -2))],
            table=["  0 a            b                     1", "  1 c            d                     2"])


class SameAnswersTest(unittest.TestCase):
    def test_whatever_was_asked_done_or_undone_before(self):
        plain = Bench(1)
        plain.add("a", "b", "c", "d")
        for a, b, count in (("a", "b", 1), ("c", "b", 2), ("a", "c", 3), ("d", "a", 0)):
            plain.strike(a, b, count)
        plain.tell(Above("b", "a"))
        plain.tell(~Between("a", "d", "c"))
        first = all_answers(plain)
        self.assertEqual(all_answers(plain), first)
        other = Bench(3)
        other.add("a")
        other.add("b", "x")
        other.undo()
        other.add("b")
        other.strike("a", "b", 9)
        other.undo()
        other.strike("a", "b", 1)
        other.add("c", "d")
        for a, b, count in (("c", "b", 2), ("a", "c", 3), ("d", "a", 0)):
            all_answers(other)
            other.strike(a, b, count)
        attempt(other, lambda held: [held.undo(), held.add("e"), all_answers(held)])
        other.tell(Above("b", "a"))
        other.limit = 1
        other.tell(parse_fact("not (between a d c)"))
        other.limit = 0
        other.undo()
        with Trial(other):
            other.undo()
            all_answers(other)
        answers = all_answers(other)
        self.assertEqual({name: answers[name] for name in answers}, first)
        self.assertEqual(all_answers(other.twin()), first)

    def test_answers_do_not_change_when_they_are_changed(self):
        bench = Bench.of(("a", "b", 1), ("b", "c", 2), ("c", "a", 2), limit=1)
        before = all_answers(bench)
        kept = copy.deepcopy(before)
        for answer in before.values():
            if isinstance(answer, list):
                for item in answer:
                    if isinstance(item, list):
                        item.clear()
                answer.clear()
        self.assertEqual(all_answers(bench), kept)


class NamesTest(unittest.TestCase):
    def test_names_that_are_words_of_the_program(self):
        words = ["above", "not", "trio", "add", "undo", "intune", "both", "strike", "limit", "tell"]
        letters = list("abcdefghij")
        benches = []
        for names in (words, letters):
            bench = Bench()
            bench.add(*names)
            for at in range(9):
                bench.strike(names[at], names[at + 1], at % 3)
            bench.strike(names[9], names[7], 3)
            bench.tell(Above(names[3], names[4]) | Above(names[4], names[5]))
            bench.tell(~AsOften(names[0], names[2], names[3], names[6]))
            benches.append(bench)
        first, second = benches
        self.assertEqual([t.pitches() for t in fittings(first)], [t.pitches() for t in fittings(second)])
        self.assertEqual(first.facts()[0], "either (above add undo) (above undo intune)")
        for fact in first.facts():
            self.assertEqual(str(parse_fact(fact)), fact)
        renamed = dict(zip(letters, words))
        self.assertEqual(sure_beats(first), [(renamed[a], renamed[b], n) for a, b, n in sure_beats(second)])
        self.assertEqual(settling(first), [(renamed[a], renamed[b]) for a, b in settling(second)])
        desk = Desk()
        desk.run("add " + " ".join(words), "strike above not 2", "tell not (above not above)", "limit 1")
        self.assertEqual(desk.run("beats not above", "ask above above not", "undo"),
                         ["beats 1 2 3", "sure", "undone limit 1"])

    def test_strings_that_are_no_names_are_unknown_forks(self):
        bench = halved()
        for name in ("", "A", "a b", "abcdefghijklm", "a\n", "\u00e4", "e"):
            for call in (
                lambda: bench.strike("a", name, 1), lambda: bench.strike(name, name, -1),
                lambda: walk(bench, name, "a"), lambda: possible_beats(bench, "a", name),
                lambda: groups(bench, ("a", name)), lambda: drifts(bench, [name], []),
                lambda: drifts(bench, [], [("a", name, 1)]),
            ):
                error, attributes = caught(call)
                self.assertEqual((error.__name__, attributes), ("UnknownFork", {"name": name}))


if __name__ == "__main__":
    unittest.main()
