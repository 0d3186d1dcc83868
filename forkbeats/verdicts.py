"""What all fittings of a bench have in common, and what they leave open."""

from forkbeats.bench import Bench, check_question
from forkbeats.certificates import certificate
from forkbeats.errors import Apart, NoFitting
from forkbeats.fittings import fitting_rows, holds_in
from forkbeats.graph import pieces, walk


def verdict(bench, question):
    """Return what the fittings say to the question, with a certificate or with two fittings that differ."""
    word, keeps, breaks = first_answers(bench, question)
    if word == "none":
        return (word, certificate(bench, None))
    if word == "open":
        return (word, keeps, breaks)
    return (word, certificate(bench, question, holds=word == "sure"))


def possible_beats(bench, a, b):
    """Return the beats, ascending, that two forks have in the fittings."""
    check_joined(bench, a, b)
    names = bench.forks()
    first, second = names.index(a), names.index(b)
    return sorted({abs(row[first] - row[second]) for row in some_rows(bench)})


def sure_beats(bench):
    """Return (a, b, beats) for the pairs of forks that have the same beats in all fittings."""
    rows = some_rows(bench)
    pairs = [(a, b) for a, b in near_pairs(bench) if a < b]
    beats = [(a, b, abs(rows[0][a] - rows[0][b])) for a, b in pairs]
    names = bench.forks()
    return [(names[a], names[b], count) for a, b, count in lasting(beats, rows, has_beats)]


def sure_above(bench):
    """Return the pairs (a, b) for which a is above b in all fittings."""
    names = bench.forks()
    found = lasting(near_pairs(bench), some_rows(bench), is_above)
    return [(names[a], names[b]) for a, b in found]


def sure_between(bench):
    """Return the triples (a, b, c), a before c in bench order, for which b is between a and c in all fittings."""
    names = bench.forks()
    pairs = near_pairs(bench)
    triples = [(a, b, c) for a, b in pairs for other, c in pairs if other == a and a < c and b != c]
    found = lasting(triples, some_rows(bench), is_between)
    return [(names[a], names[b], names[c]) for a, b, c in found]


def surely_off(bench):
    """Return the indexes of the strikes that are off in every fitting."""
    names = bench.forks()
    strikes = [(index, names.index(a), names.index(b), count) for index, (a, b, count) in enumerate(bench.strikes())]
    return [index for index, _, _, _ in lasting(strikes, some_rows(bench), is_off)]


def sounds(bench):
    """Return the fewest and the most different pitches of a fitting."""
    check_whole(bench)
    many = [len(set(row)) for row in some_rows(bench)]
    return (min(many), max(many))


def least_limit(bench):
    """Return the least limit with a fitting, the first fitting, and a certificate that one less has none."""
    other = bench.twin()
    for limit in range(Bench.MOST_LIMIT + 1):
        other.change("limit", limit)
        rows = fitting_rows(other)
        if rows and limit == 0:
            return (limit, rows[0], None)
        if rows:
            other.change("limit", limit - 1)
            return (limit, rows[0], certificate(other, None))
    return (None, None, certificate(other, None))


class Trial:
    """Gives a bench for a block, and puts it back when the block is left."""

    def __init__(self, bench):
        self._bench = bench

    def __enter__(self):
        # Nothing is called when the block is left, so all that has to be put back is kept ready here.
        kept = self._bench.twin()
        self._forks = kept._forks
        self._strikes = kept._strikes
        self._facts = kept._facts
        self._limit = kept._limit
        self._done = kept._done
        self._undone = kept._undone
        return self._bench

    def __exit__(self, kind, value, trace):
        bench = self._bench
        bench._forks = self._forks
        bench._strikes = self._strikes
        bench._facts = self._facts
        bench._limit = self._limit
        bench._done = self._done
        bench._undone = self._undone


def attempt(bench, act):
    """Return what the act returns for the bench, which is afterwards as it was before."""
    with Trial(bench) as held:
        return act(held)


def suppose(bench, question, *facts):
    """Return the first word of the verdict as it would be if these facts were told."""
    with Trial(bench) as held:
        for fact in facts:
            held.tell(fact)
        return verdict_word(held, question)


def verdict_word(bench, question):
    """Return the first word of the verdict."""
    word, _, _ = first_answers(bench, question)
    return word


def first_answers(bench, question):
    """Return the first word of the verdict, and the first rows, if any, that keep and that break the question."""
    check_question(bench.forks(), bench.strikes(), question)
    names = bench.forks()
    columns = [names.index(name) for name in question.forks()]
    keeps = None
    breaks = None
    for row in fitting_rows(bench):
        if holds_in(question, columns, row):
            keeps = row if keeps is None else keeps
        else:
            breaks = row if breaks is None else breaks
        if keeps is not None and breaks is not None:
            return "open", keeps, breaks
    if keeps is not None:
        return "sure", keeps, breaks
    return "none" if breaks is None else "never", keeps, breaks


def check_joined(bench, a, b):
    """Raise if a fork is unknown, or if strikes do not lead from the one to the other."""
    walk(bench, a, b)


def check_whole(bench):
    """Raise Apart if the bench has more than one piece."""
    found = pieces(bench)
    if len(found) > 1:
        raise Apart(found[0][0], found[1][0])


def some_rows(bench):
    """Return the pitches of the fittings, or raise NoFitting if there is none."""
    rows = fitting_rows(bench)
    if not rows:
        raise NoFitting()
    return rows


def near_pairs(bench):
    """Return the pairs of indexes, ascending, of two forks of one piece."""
    names = bench.forks()
    groups = [[names.index(name) for name in piece] for piece in pieces(bench)]
    return sorted([(a, b) for group in groups for a in group for b in group if a != b])


def lasting(things, rows, holds):
    """Return those of the things that hold for every row."""
    for row in rows:
        # Most things break soon, and this is not worth going on for without any.
        if not things:
            return []
        things = [thing for thing in things if holds(thing, row)]
    return things


def has_beats(triple, row):
    """Tell whether two forks have these beats."""
    a, b, beats = triple
    return abs(row[a] - row[b]) == beats


def is_above(pair, row):
    """Tell whether the first fork is above the second."""
    a, b = pair
    return row[a] > row[b]


def is_between(triple, row):
    """Tell whether the second fork is between the others."""
    a, b, c = triple
    return row[a] < row[b] < row[c] or row[c] < row[b] < row[a]


def is_off(strike, row):
    """Tell whether the strike is off."""
    _, a, b, count = strike
    return abs(row[a] - row[b]) != count
