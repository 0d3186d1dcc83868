"""Written facts, read back (points 1 and 12)."""

import itertools
import unittest

from forkbeats.errors import BadText
from forkbeats.facts import (
    Above, AsOften, Between, Both, Either, Fact, Highest, InTune, MoreOften, Not, Trio,
)
from forkbeats.notation import parse_fact
from forkbeats.tunings import Tuning
from tests.helpers import caught

PLAIN = [
    Above("b", "a"), Above("abcdefghijkl", "z"), InTune("a", "c"), InTune("c", "a"), Between("c", "a", "b"),
    Between("a", "b", "c"), Highest("d"), Highest("a", "d"), Highest("c", "d", "a", "b"), AsOften("b", "a", "c", "d"),
    AsOften("b", "a", "a", "b"), AsOften("a", "b", "a", "b"), MoreOften("d", "c", "b", "a"),
    MoreOften("b", "a", "b", "c"), Trio("c", "a", "b", beats=(3, 1, 2)), Trio("a", "b", "c", beats=(0, 0, 0)),
    Trio("a", "b", "d", beats=(1, 0, 1)), Trio("b", "d", "a", beats=(1000000000, 10, 999999999)),
    Highest("not", "both", "either"), Above("above", "trio"), Highest("highest"),
]
# Those of the plain facts that four forks suffice for.
FOUR = [fact for fact in PLAIN if set(fact.forks()) <= set("abcd")]
TRIO = "trio a b c"


def tunings():
    """Return tunings of four forks, all with pitches from 0 to 3."""
    return [Tuning(list("abcd"), list(pitches)) for pitches in itertools.product(range(4), repeat=4)]


def deeper(facts):
    """Return compound facts of each kind over these facts."""
    pairs = list(zip(facts, facts[1:] + facts[:1]))
    return ([Not(fact) for fact in facts[:6]] + [Both(*pair) for pair in pairs[2:9]]
            + [Either(*pair) for pair in pairs[7:]])


def left(depth):
    """Return a fact of this depth that nests in its first parts."""
    fact = Above("a", "b")
    for at in range(depth - 1):
        fact = [Both(fact, InTune("c", "d")), Either(fact, Highest("d"))][at % 2]
    return fact


def right(depth):
    """Return a fact of this depth that nests in its second parts."""
    fact = Above("a", "b")
    for at in range(depth - 1):
        fact = [Both(InTune("c", "d"), fact), Either(Highest("d"), fact)][at % 2]
    return fact


def negated(depth):
    """Return the written form that a fact of this depth has or would have."""
    return "not (" * (depth - 1) + "above a b" + ")" * (depth - 1)


class NotationCase(unittest.TestCase):
    def check_read(self, fact, answers):
        """Check that the written form of the fact is read as the same fact."""
        text = str(fact)
        same = parse_fact(text)
        self.assertIsInstance(same, Fact)
        self.assertIs(type(same), type(fact), text)
        self.assertEqual((str(same), same.forks(), same.depth), (text, fact.forks(), fact.depth))
        for tuning in answers:
            self.assertIs(same(tuning), fact(tuning), f"{text} for {tuning}")

    def check_refused(self, *texts):
        """Check that each text is refused, and that the error tells all of it."""
        for text in texts:
            with self.subTest(text[:80]):
                self.assertEqual(caught(parse_fact, text), (BadText, {"text": text}))


class ReadTest(NotationCase):
    def test_plain_facts(self):
        for fact in PLAIN:
            self.check_read(fact, tunings() if fact in FOUR else [])

    def test_the_texts_of_plain_facts(self):
        for text in [
            "above a b", "intune b a", "between a c b", "highest b", "highest b a", "highest b a c d",
            "asoften a b c d", "asoften a b b a", "moreoften a b c d", "moreoften a b a c", "trio a b c 2 3 5",
            "trio c b a 0 0 0", "trio c b a 1000000000 1000000000 1000000000", "trio a b c 9 10 100",
        ]:
            self.assertEqual(str(parse_fact(text)), text)

    def test_the_counts_of_a_trio(self):
        fact = parse_fact("trio a b c 2 3 5")
        self.assertIs(fact(Tuning.of(a=0, b=2, c=5)), True)
        self.assertIs(fact(Tuning.of(a=0, b=3, c=6)), False)
        self.assertIs(parse_fact("trio a b c 0 1000000000 1000000000")(Tuning.of(a=0, b=0, c=10 ** 9)), True)

    def test_compound_facts_up_to_the_greatest_depth(self):
        facts = FOUR
        for depth in range(2, 7):
            facts = deeper(facts)[:40]
            self.assertEqual({fact.depth for fact in facts}, {depth})
            for fact in facts:
                self.check_read(fact, tunings()[::23])

    def test_each_kind_of_compound_facts(self):
        first, second = Above("a", "b"), Highest("d", "c")
        for fact in [Not(first), Both(first, second), Both(second, first), Either(first, second), Both(first, first)]:
            self.check_read(fact, tunings())
        self.check_read(Both(Not(first), Either(second, Not(second))), tunings())

    def test_the_texts_of_compound_facts(self):
        for text in [
            "not (above a b)", "both (above a b) (highest c)", "either (highest c) (above a b)",
            "not (both (not (intune a b)) (either (highest a) (trio a b c 1 1 2)))",
        ]:
            self.assertEqual(str(parse_fact(text)), text)

    def test_both_and_either_are_told_apart(self):
        tuning = Tuning.of(a=1, b=0)
        self.assertIs(parse_fact("both (above a b) (above b a)")(tuning), False)
        self.assertIs(parse_fact("either (above a b) (above b a)")(tuning), True)

    def test_deep_facts_on_either_side(self):
        for depth in range(1, 7):
            for fact in [left(depth), right(depth)]:
                self.assertEqual(fact.depth, depth)
                self.check_read(fact, tunings()[::17])
            self.assertEqual(str(parse_fact(negated(depth))), negated(depth))

    def test_a_full_fact_of_the_greatest_depth(self):
        fact = Trio("a", "b", "c", beats=(0, 1, 1))
        for at in range(5):
            fact = [Either, Both][at % 2](fact, fact)
        self.check_read(fact, tunings()[::31])


class RefusedTest(NotationCase):
    def test_spaces(self):
        for fact in FOUR + [Not(FOUR[0]), Both(FOUR[0], FOUR[1]), Either(Not(FOUR[0]), FOUR[1])]:
            text = str(fact)
            self.check_refused(" " + text, text + " ", text.replace(" ", "  ", 1), "  ".join(text.rsplit(" ", 1)))

    def test_a_space_at_each_place_and_each_character_missing(self):
        for text in ["above a b", "trio a b c 2 3 5", "both (not (above a b)) (highest c)"]:
            self.assertEqual(str(parse_fact(text)), text)
            self.check_refused(*[text[:at] + " " + text[at:] for at in range(len(text) + 1)])
            self.check_refused(*[text[:at] + text[at + 1:] for at in range(len(text))])

    def test_other_white_space(self):
        for text in ["above a b", "not (above a b)", "both (above a b) (highest c)", "trio a b c 2 3 5"]:
            self.check_refused(text + "\n", "\n" + text, text + "\r", text + "\t", text + "\n\n")
            for blank in ["\n", "\t", "\r", "\u00a0", "\u2003", "\x0b", ""]:
                self.check_refused(text.replace(" ", blank), text.replace(" ", blank, 1))
        self.check_refused("not (above a b\n)", "not (\nabove a b)", "above a b\nabove a b", "trio a b c 2 3 5\n")

    def test_empty_texts(self):
        self.check_refused("", " ", "\n", "()", "( )", "(())")
        self.check_refused("not", "both", "either", "not ()", "not ( )", "both () ()", "either () ()")

    def test_brackets_that_are_missing(self):
        self.check_refused(
            "not above a b", "not above", "both above a b highest c", "both (above a b) highest c",
            "both above a b (highest c)", "either above a b above c d", "not not above a b", "not not (above a b)",
            "not (not above a b)")

    def test_brackets_that_are_left_open(self):
        self.check_refused(
            "not (above a b", "not above a b)", "both (above a b) (highest c", "both (above a b (highest c)",
            "both (above a b) highest c)", "both above a b) (highest c)", "not (not (above a b)", "not (above a b))",
            "not ((above a b)", "(not (above a b)", ")not (above a b)", "not )above a b(", "not )(above a b)(",
            "both (above a b)) ((highest c)", "(", ")", ")(", "not (", "not )", "above a b)", "above (a b")

    def test_brackets_around_the_whole_and_more_brackets(self):
        self.check_refused(
            "(above a b)", "((above a b))", "(not (above a b))", "not ((above a b))", "not (((above a b)))",
            "both ((above a b) (highest c))", "both ((above a b)) (highest c)", "above (a) (b)", "above (a b)",
            "highest (c)", "(above) a b", "(not) (above a b)", "not () (above a b)", "not (above a b) ()",
            "trio a b c (2) 3 5", "not [above a b]", "not {above a b}")

    def test_brackets_without_the_space_before_them(self):
        self.check_refused(
            "not(above a b)", "both (above a b)(highest c)", "both(above a b) (highest c)", "not (above a b)not",
            "not (above a b) not", "not x (above a b)", "both (above a b) x (highest c)",
            "both (above a b), (highest c)", "notx (above a b)", "not (x)(above a b)")

    def test_capital_letters(self):
        self.check_refused(
            "Above a b", "ABOVE a b", "above A b", "above a B", "Not (above a b)", "NOT (above a b)",
            "not (Above a b)", "Both (above a b) (highest c)", "eitheR (above a b) (highest c)", "highest C",
            "trio a B c 2 3 5")

    def test_wrong_words(self):
        self.check_refused(
            "below a b", "a b", "abov a b", "abovee a b", "in tune a b", "intuned a b", "fact a b", "lowest a b",
            "hello", "tell above a b", "Above('a', 'b')", "above", "duo a b 2", "not (below a b)", "~above a b",
            "~(above a b)", "no (above a b)", "(above a b) & (highest c)", "neither (above a b) (highest c)",
            "and (above a b) (highest c)", "or (above a b) (highest c)")

    def test_one_part_too_many_or_too_few(self):
        self.check_refused(
            "above a", "above a b c", "intune a", "intune a b c", "between a b", "between a b c d", "highest",
            "asoften a b c", "asoften a b", "asoften a b c d e", "moreoften a b c", "moreoften a b c d e",
            "trio a b c", "trio a b c 2", "trio a b c 2 3", "trio a b c 2 3 5 8", "trio a b 2 3 5",
            "trio a b c d 2 3 5", "trio a b c d 2 3", "trio 2 3 5", "not (above a b) (highest c)",
            "both (above a b)", "either (above a b)", "both (above a b) (highest c) (highest d)",
            "either (above a b) (highest c) (highest d)", "not (above a)", "both (above a b) (above a b c)")

    def test_invalid_names(self):
        for name in ["abcdefghijklm", "A", "a1", "1", "a-b", "\u00e4", "a_b", "(a)", "", "a,", "*"]:
            self.check_refused(
                f"above {name} b", f"above a {name}", f"intune {name} b", f"between a {name} c", f"highest {name}",
                f"highest a {name}", f"asoften a b c {name}", f"moreoften {name} b c d", f"trio a b {name} 2 3 5",
                f"not (above a {name})", f"both (highest a) (highest {name})")

    def test_repeated_names(self):
        self.check_refused(
            "above a a", "intune b b", "between a b a", "between a a b", "between b a a", "highest a a",
            "highest a b b", "highest a b c a", "asoften a a b c", "asoften a b c c", "moreoften a a b c",
            "moreoften a b b b", "trio a b a 2 3 5", "trio a a b 2 3 5", "trio a b b 2 3 5", "not (above a a)",
            "either (highest b) (above a a)")

    def test_counts_in_another_order(self):
        for counts in itertools.permutations((2, 3, 10)):
            text = f"{TRIO} {' '.join(map(str, counts))}"
            if counts == (2, 3, 10):
                self.assertEqual(str(parse_fact(text)), text)
            else:
                self.check_refused(text)
        self.check_refused(f"{TRIO} 1 0 0", f"{TRIO} 0 1 0", f"{TRIO} 10 100 9", f"not ({TRIO} 3 1 2)")

    def test_counts_that_are_no_written_counts(self):
        for count in [
            "01", "00", "007", "0" * 20, "+1", "-1", "-0", "+0", "1.0", "1_0", "0x1", "1e3", "1,", "one", "a", "",
            "\u0661", "\u00b2",
        ]:
            for at in range(3):
                counts = ["1", "1", "1"]
                counts[at] = count
                self.check_refused(f"{TRIO} {' '.join(counts)}")
        self.check_refused(f"{TRIO} -1 1 2", f"{TRIO} -3 -2 -1", f"{TRIO} 0 00 1", f"{TRIO} 2,3,5", f"{TRIO} 235")

    def test_counts_out_of_range(self):
        most = Fact.MOST_COUNT
        self.assertEqual(str(parse_fact(f"{TRIO} {most} {most} {most}")), f"{TRIO} {most} {most} {most}")
        for count in [most + 1, 9999999999, 10 ** 10, 10 ** 40, 10 ** 4000]:
            self.check_refused(f"{TRIO} 0 0 {count}", f"{TRIO} {count} {count} {count}", f"not ({TRIO} 0 0 {count})")

    def test_counts_with_thousands_of_digits(self):
        for size in [4300, 4301, 5000, 100000]:
            for digit in "019":
                count = digit * size
                self.check_refused(
                    f"{TRIO} 0 0 {count}", f"{TRIO} {count} 3 5", f"{TRIO} 0 -{count} 0", f"{TRIO} 1 {count} 1",
                    f"both (highest a) ({TRIO} 0 0 {count})")

    def test_facts_that_are_too_deep(self):
        for depth in [7, 8, 20]:
            self.check_refused(negated(depth))
        self.check_refused(
            f"both ({negated(6)}) (highest a)", f"both (highest a) ({negated(6)})",
            f"either ({negated(6)}) (highest a)", f"either (highest a) ({negated(6)})",
            f"not ({left(6)})", f"not ({right(6)})")

    def test_thousands_of_nested_brackets(self):
        for depth in [500, 1100, 5000, 50000]:
            self.check_refused(
                negated(depth), "(" * depth, ")" * depth, "(" * depth + ")" * depth, "not (" * depth,
                "(" * depth + "above a b" + ")" * depth, "not " + "(" * depth + "above a b" + ")" * depth,
                negated(depth) + ")", negated(depth)[:-1], "()" * depth,
                "both (" * depth + "above a b" + ") (highest c)" * depth,
                "both (highest c) (" * depth + "above a b" + ")" * depth,
                "either (" * depth + "above a b" + ") (highest c)" * depth,
                "either (highest c) (" * depth + "above a b" + ")" * depth)

    def test_a_second_fact_behind_the_first(self):
        self.check_refused(
            "above a b above c d", "above a b highest c", "not (above a b) above a b",
            "both (above a b) (highest c) highest d", "above a b & above c d")


if __name__ == "__main__":
    unittest.main()
