"""The written forms of facts, read back."""

from forkbeats.errors import BadText, ForkError
from forkbeats.facts import Above, AsOften, Between, Both, Either, Fact, Highest, InTune, MoreOften, Not, Trio
from forkbeats.words import is_numeral

MOST_DIGITS = 10


def parse_fact(text):
    """Return the fact whose written form is exactly the text, or raise BadText."""
    try:
        fact = fact_in(text, Fact.MOST_DEPTH)
    except ForkError as error:
        raise BadText(text) from error
    # What is read may be written otherwise: with a space more, or with its counts in another order.
    if str(fact) != text:
        raise BadText(text)
    return fact


def fact_in(text, depth):
    """Return the fact that can be read from the text, if it is not deeper than this."""
    # The depth bounds the recursion, too, however many brackets the text has.
    if depth == 0:
        raise BadText(text)
    word = text.partition(" ")[0]
    parts = parts_in(text)
    match [word, *parts]:
        case ["not", part]:
            return Not(fact_in(part, depth - 1))
        case ["both", first, second]:
            return Both(fact_in(first, depth - 1), fact_in(second, depth - 1))
        case ["either", first, second]:
            return Either(fact_in(first, depth - 1), fact_in(second, depth - 1))
    return plain_fact(text.split(" "))


def parts_in(text):
    """Return the texts that stand in the outermost brackets of the text."""
    parts = []
    depth = 0
    start = 0
    for at, letter in enumerate(text):
        if letter == "(":
            depth += 1
            if depth == 1:
                start = at + 1
        elif letter == ")":
            depth -= 1
            if depth == 0:
                parts.append(text[start:at])
    return parts


def plain_fact(words):
    """Return the plain fact with these words."""
    match words:
        case ["above", a, b]:
            return Above(a, b)
        case ["intune", a, b]:
            return InTune(a, b)
        case ["between", a, b, c]:
            return Between(a, b, c)
        case ["highest", a, *others]:
            return Highest(a, *others)
        case ["asoften", a, b, c, d]:
            return AsOften(a, b, c, d)
        case ["moreoften", a, b, c, d]:
            return MoreOften(a, b, c, d)
        case ["trio", a, b, c, low, middle, high]:
            return Trio(a, b, c, beats=(count_in(low), count_in(middle), count_in(high)))
    raise BadText(" ".join(words))


def count_in(word):
    """Return the count that is written as this word."""
    # More digits are out of range in any case, and int refuses thousands of them with another error.
    if not is_numeral(word, MOST_DIGITS):
        raise BadText(word)
    return int(word)
