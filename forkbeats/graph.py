"""How strikes join the forks of a bench: pieces, walks, blocks and cut forks."""

from forkbeats.bench import Bench, check_known, merged, pieces_of
from forkbeats.errors import Apart, NoBlock


def pieces(bench):
    """Return the lists of the forks that strikes lead to from one another."""
    return pieces_of(bench.forks(), bench.strikes())


def walk(bench, a, b):
    """Return the least of the shortest walks from one fork to another, as indexes of strikes."""
    check_known([a, b], bench.forks())
    walks = walks_from(steps_of(bench), a)
    if b not in walks:
        raise Apart(a, b)
    return walks[b]


def blocks(bench):
    """Return the blocks as ascending lists of indexes of strikes."""
    walks = {}
    for piece in pieces(bench):
        walks.update(walks_from(steps_of(bench), piece[0]))
    rings = [ring(index, walks[a], walks[b]) for index, (a, b, _) in enumerate(bench.strikes())]
    return merged(list(range(len(rings))), rings)


def cut_forks(bench):
    """Return the forks, in bench order, whose strikes are in two or more blocks."""
    lots = [forks_of(bench, block) for block in blocks(bench)]
    return [name for name in bench.forks() if len([lot for lot in lots if name in lot]) > 1]


def part(bench, index):
    """Return a new bench with the forks and strikes of one block."""
    block = block_at(bench, index)
    strikes = bench.strikes()
    result = Bench()
    result.add_all(forks_of(bench, block))
    for at in block:
        a, b, count = strikes[at]
        result.strike(a, b, count)
    return result


def block_at(bench, index):
    """Return the block with this index in the list of blocks, or raise NoBlock."""
    found = blocks(bench)
    if index < 0 or index >= len(found):
        raise NoBlock(index)
    return found[index]


def forks_of(bench, block):
    """Return the forks of a block in bench order."""
    strikes = bench.strikes()
    ends = [name for index in block for name in strikes[index][:2]]
    return [name for name in bench.forks() if name in ends]


def steps_of(bench):
    """Return for each fork the list of its strikes, each with the fork at its other end."""
    return steps_over(bench, list(range(len(bench.strikes()))))


def steps_over(bench, indexes):
    """Return what `steps_of` returns, as if the bench had only the strikes with these indexes."""
    strikes = bench.strikes()
    steps = {name: [] for name in bench.forks()}
    for index in indexes:
        a, b, _ = strikes[index]
        steps[a].append((index, b))
        steps[b].append((index, a))
    return steps


def walks_from(steps, start):
    """Return, by the forks to which the steps lead, the least of the shortest walks to them.

    The steps of each fork must be in ascending order; otherwise the walks are shortest ones, but not the least.
    """
    walks = {start: []}
    level = [start]
    while level:
        # A level is in ascending order of its walks, so the first walk to reach a fork is the least.
        reached = []
        for here in list(level):
            for index, other in steps[here]:
                if other not in walks:
                    walks[other] = walks[here] + [index]
                    reached.append(other)
        level = reached
    return walks


def led(strikes, rises, start, indexes):
    """Return the fork to which the walk with these indexes leads, and the sum of its steps.

    The rises stand by the indexes of their strikes. If some index has none, or its strike cannot be walked from where
    the walk has come, the fork is None.
    """
    here = start
    total = 0
    for index in indexes:
        if index not in rises:
            return None, 0
        a, b, _ = strikes[index]
        if here == a:
            here = b
            total = total + rises[index]
        elif here == b:
            here = a
            total = total - rises[index]
        else:
            return None, 0
    return here, total


def ring(index, there, back):
    """Return the strike and the rest of the round that it closes with the walks to its two forks.

    The walks come from the first fork of the piece, and what they share is no part of the round. A strike that such a
    walk uses closes no round and stays alone. Every other simple round is made up of rounds of this kind, so these
    tell which strikes are in one block.
    """
    return [index] + [at for at in there if at not in back] + [at for at in back if at not in there]
