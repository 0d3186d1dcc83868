"""Certificates: trees that show that a question holds, or breaks, for every fitting of a bench."""

from forkbeats.bench import check_question, pieces_of
from forkbeats.errors import NoStrike
from forkbeats.fittings import allowed_rises
from forkbeats.graph import led, steps_of, steps_over, walks_from
from forkbeats.tunings import Tuning


def rises(bench, index):
    """Return the rises, ascending, that the bench allows a strike."""
    strikes = bench.strikes()
    if index < 0 or index >= len(strikes):
        raise NoStrike(index)
    return allowed_rises(strikes[index][2], bench.limit)


def certificate(bench, question, *, holds=True):
    """Return a certificate that the question holds, or breaks, for every fitting, or None if there is none."""
    check_asked(bench, question)
    return tree_from(Inquiry(bench, question, holds), stages_of(bench, question), {})


def checks(bench, question, tree, *, holds=True):
    """Tell whether the tree is a certificate that the question holds, or breaks, for every fitting."""
    check_asked(bench, question)
    return is_proof(Inquiry(bench, question, holds), tree, {})


def check_asked(bench, question):
    """Raise if there is a question, and it asks for a fork that is unknown or in another piece than its first."""
    if question is not None:
        check_question(bench.forks(), bench.strikes(), question)


class Inquiry:
    """What a certificate is about: a bench, a question, and whether the question is to hold or to break.

    Decided strikes are given as a dict of their rises by their indexes.
    """

    def __init__(self, bench, question, wanted):
        self._strikes = bench.strikes()
        self._facts = bench.told()
        self._limit = bench.limit
        self._question = question
        self._wanted = wanted

    def choices(self, index, decided):
        """Return the rises that a strike may get, none if there is no such strike or it is decided."""
        if index in decided or index < 0 or index >= len(self._strikes):
            return []
        return allowed_rises(self._strikes[index][2], self._limit)

    def ends_at(self, leaf, decided):
        """Tell whether the leaf is right where these strikes are decided."""
        match leaf:
            case ["spent"]:
                return self._is_spent(decided)
            case ["round", start, walk]:
                return self._is_round(start, walk, decided)
            case ["fact", number, walks]:
                return 0 <= number < len(self._facts) and self._is_sure(self._facts[number], False, walks, decided)
            case ["told", walks]:
                return self._question is not None and self._is_sure(self._question, self._wanted, walks, decided)
        return False

    def _is_spent(self, decided):
        off = [index for index in decided if abs(decided[index]) != self._strikes[index][2]]
        return len(off) > self._limit

    def _is_round(self, start, walk, decided):
        # Without strikes, or from no fork of the bench, the sum is 0.
        end, total = led(self._strikes, decided, start, walk)
        return end == start and total != 0

    def _is_sure(self, fact, wanted, walks, decided):
        """Tell whether the walks lead to the forks of the fact, and it holds, or breaks, as it is wanted."""
        names = fact.forks()
        if len(walks) != len(names) - 1:
            return False
        pitches = [0]
        for name, walk in zip(names[1:], walks):
            end, total = led(self._strikes, decided, names[0], walk)
            if end != name:
                return False
            pitches.append(total)
        return fact(Tuning(names, pitches)) == wanted


def is_proof(inquiry, tree, decided):
    """Tell whether the tree is a certificate where these strikes are decided."""
    match tree:
        case ["split", index, branches]:
            choices = inquiry.choices(index, decided)
            if not choices or len(branches) != len(choices):
                return False
            pairs = list(zip(choices, branches))
            return all([is_proof(inquiry, branch, {**decided, index: rise}) for rise, branch in pairs])
    return inquiry.ends_at(tree, decided)


def tree_from(inquiry, stages, decided):
    """Return a certificate where the strikes of the first stages are decided, or None if there is none."""
    index, leaves = stages[len(decided)]
    for leaf in leaves:
        if inquiry.ends_at(leaf, decided):
            return copied(leaf)
    if index is None:
        return None
    branches = []
    for rise in inquiry.choices(index, decided):
        tree = tree_from(inquiry, stages, {**decided, index: rise})
        if tree is None:
            return None
        branches.append(tree)
    return ("split", index, branches)


def copied(leaf):
    """Return the leaf with new lists: it may stand in a tree many times."""
    match leaf:
        case ["round", start, walk]:
            return ("round", start, list(walk))
        case ["fact", number, walks]:
            return ("fact", number, [list(each) for each in walks])
        case ["told", walks]:
            return ("told", [list(each) for each in walks])
    return leaf


def stages_of(bench, question):
    """Return one stage for each number of decided strikes.

    A stage is the index of the strike that is decided next, None in the last stage, and the list of the leaves that
    may end a branch here and not before.
    """
    order = deciding_order(bench, question)
    stages = [(index, leaves_at(bench, question, order[:at])) for at, index in enumerate(order)]
    return stages + [(None, leaves_at(bench, question, order))]


def leaves_at(bench, question, decided):
    """Return the leaves that walks allow when these strikes are decided, but not before the last of them."""
    steps = steps_over(bench, decided)
    before = steps_over(bench, decided[:-1])
    leaves = []
    if decided:
        leaves = [("spent",)] + rounds_by(bench, decided[-1], before)
    facts = [(("fact", number), fact) for number, fact in enumerate(bench.told())]
    if question is not None:
        facts = [(("told",), question)] + facts
    for head, fact in facts:
        names = fact.forks()
        if joins(steps, names) and not (decided and joins(before, names)):
            leaves.append(head + (walks_to(steps, names),))
    return leaves


def rounds_by(bench, index, steps):
    """Return the leaf of the round that a strike closes with these steps, if it closes one."""
    a, b, _ = bench.strikes()[index]
    if not joins(steps, [a, b]):
        return []
    return [("round", a, [index] + walks_from(steps, b)[a])]


def joins(steps, names):
    """Tell whether the steps lead from the first of the forks to all others."""
    walks = walks_from(steps, names[0])
    return all([name in walks for name in names])


def walks_to(steps, names):
    """Return the shortest walks from the first of the forks to each of the others."""
    walks = walks_from(steps, names[0])
    return [walks[name] for name in names[1:]]


def deciding_order(bench, question):
    """Return the indexes of the strikes that matter, in an order that makes small trees.

    The strikes that the question needs come first, among them those of told facts that need no others; then the
    strikes of the other facts and of the rounds, small ones first. What is left may be exact in every case.
    """
    goals = [strikes_for(bench, fact.forks()) for fact in bench.told()]
    goals = sorted(goals + [ring_of(bench, index) for index in range(len(bench.strikes()))], key=len)
    own = [] if question is None else strikes_for(bench, question.forks())
    inner = [goal for goal in goals if all([index in own for index in goal])]
    return with_closers(bench, [index for goal in inner + [own] + goals for index in goal])


def strikes_for(bench, names):
    """Return the indexes of the strikes on shortest walks from the first of the forks to the others."""
    return [index for walk in walks_to(steps_of(bench), names) for index in walk]


def ring_of(bench, index):
    """Return the indexes of a shortest round with this strike, none if it is in no round."""
    others = [at for at in range(len(bench.strikes())) if at != index]
    rounds = rounds_by(bench, index, steps_over(bench, others))
    return [at for _, _, walk in rounds for at in walk]


def with_closers(bench, indexes):
    """Return the indexes without repeats, and each strike as soon as those before it join its forks.

    Such a strike has one rise at most that closes its round, so it adds no branches that go on.
    """
    strikes = bench.strikes()
    order = []
    for index in indexes:
        if index not in order:
            order.append(index)
            groups = pieces_of(bench.forks(), [strikes[at] for at in order])
            for at, (a, b, _) in enumerate(strikes):
                if at not in order and any([a in group and b in group for group in groups]):
                    order.append(at)
    return order
