"""Forks that have drifted since the strikes of a bench were made."""

from forkbeats.bench import check_known, check_strike
from forkbeats.errors import BadLimit
from forkbeats.fittings import fitting_rows
from forkbeats.verdicts import check_joined

MOST_DRIFT = 100


def drifts(bench, group, later, *, most=12):
    """Return the amounts by which the forks of the group may have drifted, each with the first fitting for it."""
    names = bench.forks()
    check_known(group, names)
    for a, b, count in later:
        check_strike(names, a, b, count)
        check_joined(bench, a, b)
    if most < 0 or most > MOST_DRIFT:
        raise BadLimit(most)
    strikes = [(names.index(a), names.index(b), share(b, group) - share(a, group), count) for a, b, count in later]
    amounts = list(range(-most, most + 1))
    first = {}
    for row in fitting_rows(bench):
        for amount in exact_amounts(row, strikes, amounts):
            first.setdefault(amount, row)
        # Without later strikes, the first row does for all amounts.
        if len(first) == len(amounts):
            break
    return [(amount, first[amount]) for amount in sorted(first)]


def share(name, group):
    """Return how often the amount is added to the pitch of a fork."""
    return 1 if name in group else 0


def exact_amounts(row, strikes, amounts):
    """Return those of the amounts that make all strikes exact, which are given with the shares of their rises."""
    for a, b, shift, count in strikes:
        rise = row[b] - row[a]
        amounts = [amount for amount in amounts if abs(rise + shift * amount) == count]
        if not amounts:
            return []
    return amounts
