"""Benches for many tests, and slower and plainer searches to compare the program with."""

import functools
import itertools
import random
import string

from forkbeats.bench import Bench
from forkbeats.facts import Above, AsOften, Between, Highest, InTune, MoreOften, Trio
from forkbeats.tunings import Tuning

LETTERS = list(string.ascii_lowercase)


def reached(bench, start):
    """Return the forks that strikes lead to from this one, in bench order."""
    found = {start}
    for _ in bench.forks():
        for a, b, _ in bench.strikes():
            if a in found or b in found:
                found |= {a, b}
    return [name for name in bench.forks() if name in found]


def firsts(bench):
    """Return the first fork of each piece."""
    return [name for name in bench.forks() if reached(bench, name)[0] == name]


def pitches_by(bench, rises):
    """Return the pitches in bench order that these rises of all strikes give, or None if rounds do not close."""
    pitches = {name: 0 for name in firsts(bench)}
    for _ in bench.forks():
        for (a, b, _), rise in zip(bench.strikes(), rises):
            if a in pitches and b not in pitches:
                pitches[b] = pitches[a] + rise
            elif b in pitches and a not in pitches:
                pitches[a] = pitches[b] - rise
    for (a, b, _), rise in zip(bench.strikes(), rises):
        if pitches[b] - pitches[a] != rise:
            return None
    return tuple(pitches[name] for name in bench.forks())


def plain_rises(count, limit):
    """Return the rises that a strike may have."""
    near = 1 if limit > 0 else 0
    return [rise for rise in range(-count - near, count + near + 1) if abs(abs(rise) - count) <= near]


def plain_rows(bench, limit=None):
    """Return the pitches of all fittings in ascending order, found by all rises of all strikes."""
    limit = bench.limit if limit is None else limit
    counts = [count for _, _, count in bench.strikes()]
    found = set()
    for rises in itertools.product(*[plain_rises(count, limit) for count in counts]):
        if sum(abs(rise) != count for rise, count in zip(rises, counts)) <= limit:
            found.add(pitches_by(bench, rises))
    found.discard(None)
    return sorted(row for row in found if all(fact(Tuning(bench.forks(), row)) for fact in bench.told()))


def plain_shapes(rows):
    """Return those of the rows whose turned rows do not stand earlier."""
    return [row for at, row in enumerate(rows) if tuple(-pitch for pitch in row) not in rows[:at]]


def some_fact(source, names, depth=3):
    """Return a fact about some of these names."""
    if depth > 1 and source.random() < 0.3:
        first, second = some_fact(source, names, depth - 1), some_fact(source, names, depth - 1)
        return source.choice([~first, first & second, first | second])
    kinds = [lambda: Highest(names[0])]
    if len(names) > 1:
        two, other = source.sample(names, 2), source.sample(names, 2)
        kinds = [
            lambda: Above(*two), lambda: InTune(*two), lambda: Highest(*source.sample(names, len(names))),
            lambda: AsOften(*two, *other), lambda: MoreOften(*two, *other),
        ]
    if len(names) > 2:
        three = source.sample(names, 3)
        counts = [source.randrange(4) for _ in range(2)]
        kinds += [lambda: Between(*three), lambda: Between(*three), lambda: Trio(*three, beats=(*counts, sum(counts)))]
    return source.choice(kinds)()


def some_bench(source, forks, strikes, limit, facts, most=4):
    """Return a bench for which there is a fitting more often than not."""
    bench = Bench(limit)
    names = source.sample(LETTERS, forks)
    bench.add(*names)
    tuning = Tuning(names, [source.randrange(-most, most + 1) for _ in names])
    for _ in range(strikes if forks > 1 else 0):
        a, b = source.sample(names, 2)
        wrong = source.choice([0, 0, 0, 0, 0, 0, 1, -1])
        bench.strike(a, b, max(0, tuning.beats(a, b) + wrong))
    for _ in range(facts if forks > 0 else 0):
        fact = some_fact(source, reached(bench, source.choice(names)))
        bench.tell(fact if fact(tuning) or source.random() < 0.2 else ~fact)
    return bench


@functools.cache
def all_benches():
    """Return benches of all kinds, always the same ones, each small enough for a plain search."""
    source = random.Random(22)
    found = []
    for many in range(240):
        limit = many % 4
        strikes = source.randrange(2, 9 if limit == 0 else 6 if many % 3 else 5)
        found.append(some_bench(source, source.choice([0, 1, 2, 3, 4, 4, 5, 5]), strikes, limit, many // 4 % 3))
    return found


@functools.cache
def all_rows():
    """Return for each of all benches the pitches of its fittings."""
    return [plain_rows(bench) for bench in all_benches()]


def followed(bench, rises, start, walk):
    """Return the fork that the walk leads to and the sum of its steps, or None if it is no walk over these rises."""
    here, total = start, 0
    for index in walk:
        if index not in rises or here not in bench.strikes()[index][:2]:
            return None
        a, b, _ = bench.strikes()[index]
        here, total = (b, total + rises[index]) if here == a else (a, total - rises[index])
    return here, total


def read_off(bench, rises, fact, walks):
    """Return what the fact says if its forks have the pitches that the walks give, or None if a walk is wrong."""
    first, *others = fact.forks()
    found = [followed(bench, rises, first, walk) for walk in walks]
    if len(found) != len(others) or None in found or [end for end, _ in found] != others:
        return None
    return fact(Tuning([first, *others], [0, *[total for _, total in found]]))


def plain_check(bench, question, tree, holds=True, rises=None):
    """Tell whether the tree is a certificate, step by step as the document describes one."""
    rises = {} if rises is None else rises
    strikes = bench.strikes()
    if tree[0] == "split":
        _, index, branches = tree
        if index in rises or not 0 <= index < len(strikes):
            return False
        choices = plain_rises(strikes[index][2], bench.limit)
        if len(choices) != len(branches):
            return False
        return all(plain_check(bench, question, branch, holds, rises | {index: rise})
                   for rise, branch in zip(choices, branches))
    if tree[0] == "round":
        _, start, walk = tree
        end = followed(bench, rises, start, walk)
        return start in bench.forks() and len(walk) > 0 and end is not None and end[0] == start and end[1] != 0
    if tree[0] == "fact":
        _, number, walks = tree
        if not 0 <= number < len(bench.facts()):
            return False
        return read_off(bench, rises, bench.told()[number], walks) is False
    if tree[0] == "told":
        return question is not None and read_off(bench, rises, question, tree[1]) is holds
    return sum(abs(rise) != strikes[index][2] for index, rise in rises.items()) > bench.limit


def nodes(tree):
    """Return all trees within the tree, itself first."""
    found = [tree]
    if tree[0] == "split":
        for branch in tree[2]:
            found += nodes(branch)
    return found


def replaced(tree, at, other):
    """Return the tree with another one in the place of the node with this number in `nodes`."""
    if at == 0:
        return other
    word, index, branches = tree
    found = []
    at -= 1
    for branch in branches:
        many = len(nodes(branch))
        found.append(replaced(branch, at, other) if 0 <= at < many else branch)
        at -= many
    return (word, index, found)
