"""The tunings that fit a bench, up to sliding its pieces: how many there are, and which."""

from forkbeats.bench import check_known
from forkbeats.graph import block_at, blocks, led, part, pieces, steps_of, walks_from
from forkbeats.tunings import Tuning


def fits(bench, tuning):
    """Tell whether the tuning fits the bench."""
    wrong = [abs(residue) for residue in residues(bench, tuning)]
    if max(wrong, default=0) > 1 or sum(wrong) > bench.limit:
        return False
    return all([fact(tuning) for fact in bench.told()])


def residues(bench, tuning):
    """Return for each strike its beats minus its count."""
    check_known(bench.forks(), tuning)
    return [tuning.beats(a, b) - count for a, b, count in bench.strikes()]


def fittings(bench):
    """Yield the fittings in ascending order of their pitches."""
    names = bench.forks()
    for row in fitting_rows(bench):
        yield Tuning(names, row)


def count_fittings(bench):
    """Return the number of the fittings."""
    return len(placed_rows(bench, placing_order(bench), None))


def shapes(bench):
    """Yield the fittings whose turned tunings are not earlier fittings, in the same order."""
    names = bench.forks()
    for row in shape_rows(bench):
        yield Tuning(names, row)


def count_shapes(bench):
    """Return the number of the shapes."""
    return len(shape_rows(bench))


def turn_block(bench, tuning, index):
    """Return the tuning over the forks of the bench in which one block is turned over."""
    block = block_at(bench, index)
    check_known(bench.forks(), tuning)
    strikes = bench.strikes()
    rises = {}
    for at, (a, b, _) in enumerate(strikes):
        rises[at] = tuning[a] - tuning[b] if at in block else tuning[b] - tuning[a]
    steps = steps_of(bench)
    pitches = {}
    for piece in pieces(bench):
        walks = walks_from(steps, piece[0])
        for name in piece:
            # The steps of a round add up to 0 within each block, turned or not, so any walk gives the same pitch.
            _, pitches[name] = led(strikes, rises, piece[0], walks[name])
    names = bench.forks()
    return Tuning(names, [pitches[name] for name in names])


def block_counts(bench):
    """Return for each block the number of fittings of its part of the bench."""
    return [count_fittings(part(bench, index)) for index in range(len(blocks(bench)))]


def allowed_rises(count, limit):
    """Return the rises, ascending, that a strike with this count may have."""
    # For the count 0 this takes -1 as beats, too, which gives the rises that 1 gives.
    beats = [count] if limit == 0 else [count - 1, count, count + 1]
    return sorted({sign * value for value in beats for sign in (-1, 1)})


def fitting_rows(bench):
    """Return the pitches of the fittings in ascending order."""
    return ordered_rows(bench, None)


def scale_rows(bench, scale):
    """Return the pitches, in ascending order, of the tunings that fit and have all their pitches from the scale."""
    return ordered_rows(bench, scale)


def shape_rows(bench):
    """Return the pitches of the shapes in the order of the fittings."""
    rows = fitting_rows(bench)
    found = {row: True for row in rows}
    kept = []
    for row in rows:
        turned = tuple([-pitch for pitch in row])
        if turned >= row or turned not in found:
            kept.append(row)
    return kept


def placing_order(bench):
    """Return the forks such that each, but the first of its piece, is joined to earlier ones.

    A fork with many strikes to earlier ones comes early: these leave few pitches for it. The first fork of a piece in
    bench order is also its first one here.
    """
    strikes = bench.strikes()
    order = []
    rest = bench.forks()
    while rest:
        ties = [len(strikes_to(name, order, strikes)) for name in rest]
        order.append(rest.pop(ties.index(max(ties))))
    return order


def strikes_to(name, placed, strikes):
    """Return the strikes of a fork with forks that are placed, each as the place of the other and the count."""
    places = {other: at for at, other in enumerate(placed)}
    there = [(places[b], count) for a, b, count in strikes if a == name and b in places]
    return there + [(places[a], count) for a, b, count in strikes if b == name and a in places]


def ordered_rows(bench, scale):
    """Return what `placed_rows` returns, with the forks in bench order, and ascending."""
    order = placing_order(bench)
    columns = [order.index(name) for name in bench.forks()]
    return sorted([tuple([row[at] for at in columns]) for row in placed_rows(bench, order, scale)])


def placed_rows(bench, order, scale):
    """Return the pitches, with the forks in this order, of the tunings that fit and have their pitches from the scale.

    If the scale is None, any pitches will do, but the first fork of each piece has pitch 0.
    """
    strikes = bench.strikes()
    rows = [((), 0)]
    for at, name in enumerate(order):
        ties = strikes_to(name, order[:at], strikes)
        rows = [wider for row, off in rows for wider in widened(row, off, ties, bench.limit, scale)]
        for fact in bench.told():
            names = fact.forks()
            if name in names and all([other in order[:at + 1] for other in names]):
                columns = [order.index(other) for other in names]
                rows = [(row, off) for row, off in rows if holds_in(fact, columns, row)]
    return [row for row, _ in rows]


def widened(row, off, ties, limit, scale):
    """Return the row with each pitch that the next fork may have, and the number of strikes that are then off."""
    pitches = near_pitches(row, ties, limit) if scale is None else scale
    found = []
    for pitch in pitches:
        wrong = [abs(abs(row[at] - pitch) - count) for at, count in ties]
        if max(wrong, default=0) <= 1 and off + sum(wrong) <= limit:
            found.append((row + (pitch,), off + sum(wrong)))
    return found


def near_pitches(row, ties, limit):
    """Return the pitches, each once, that the first of the ties leaves for the next fork."""
    if not ties:
        return [0]
    place, count = ties[0]
    return [row[place] + rise for rise in allowed_rises(count, limit)]


def holds_in(fact, columns, row):
    """Tell whether a fact holds if its forks have the pitches in these columns of the row."""
    return fact(Tuning(fact.forks(), [row[at] for at in columns]))
