"""Further strikes: how well the beats of pairs tell the shapes of a bench apart."""

from forkbeats.bench import check_known
from forkbeats.errors import NoFitting
from forkbeats.fittings import shape_rows
from forkbeats.verdicts import check_whole

# About this many pairs of rows are looked at before the next try to tell all rows apart.
MANY_MIXED = 50000


def groups(bench, *pairs):
    """Return the shapes divided by their beats at these pairs."""
    names = bench.forks()
    check_known([name for pair in pairs for name in pair], names)
    lots = divided(whole_rows(bench), [(names.index(a), names.index(b)) for a, b in pairs])
    return [(beats, lots[beats]) for beats in sorted(lots)]


def next_pair(bench):
    """Return the first pair whose greatest group is least, with the number of its members."""
    names = bench.forks()
    rows = whole_rows(bench)
    if len(rows) == 1:
        return None
    found = []
    for a, b in all_pairs(bench):
        lots = divided(rows, [(a, b)])
        found.append((max([len(lot) for lot in lots.values()]), a, b))
    worst, a, b = min(found)
    return (names[a], names[b], worst)


def settling(bench):
    """Return as few pairs as possible that tell all shapes apart, of several such lists the first one."""
    names = bench.forks()
    rows = whole_rows(bench)
    pairs = all_pairs(bench)
    needs = []
    chosen = []
    size = least_size(rows, pairs)
    mixed = mixed_rows(rows, [])
    # No list that misses a need tells all rows apart, so the first list without mixed rows is the right one.
    while mixed:
        needs = least_needs(needs + [need_of(first, second, pairs) for first, second in mixed])
        while not can_cover(needs, size):
            size += 1
        chosen = first_cover(needs, size, len(pairs))
        mixed = mixed_rows(rows, [pairs[at] for at in chosen])
    return [(names[a], names[b]) for a, b in [pairs[at] for at in chosen]]


def strategy(bench):
    """Return a tree of least depth that tells which pair to strike next until one shape is left."""
    rows = whole_rows(bench)
    planner = Planner(bench.forks(), all_pairs(bench), rows)
    return planner.tree(tuple(range(len(rows))))


def whole_rows(bench):
    """Return the pitches of the shapes of a bench in one piece that has a fitting."""
    check_whole(bench)
    rows = shape_rows(bench)
    if not rows:
        raise NoFitting()
    return rows


def all_pairs(bench):
    """Return the pairs of indexes of forks, ascending."""
    many = len(bench.forks())
    return [(a, b) for a in range(many) for b in range(a + 1, many)]


def divided(rows, columns):
    """Return lists of the rows by the beats that they have at these pairs of columns."""
    lots = {}
    for row in rows:
        lots.setdefault(tuple([abs(row[a] - row[b]) for a, b in columns]), []).append(row)
    return lots


def least_size(rows, pairs):
    """Return a number of pairs such that fewer surely do not tell all rows apart."""
    sizes = [len(divided(rows, [pair])) for pair in pairs]
    size = 0
    while most_leaves(sizes, size) < len(rows):
        size += 1
    return size


def mixed_rows(rows, columns):
    """Return pairs of rows with the same beats at these pairs of columns, none only if there are none."""
    lots = [lot for lot in divided(rows, columns).values() if len(lot) > 1]
    every = sum([len(lot) * (len(lot) - 1) for lot in lots]) // (2 * MANY_MIXED) + 1
    # Rows that are far apart and rows that are near have different needs, so some of both are taken.
    found = []
    for lot in lots:
        for step in range(1, len(lot), every):
            found.extend(list(zip(lot, lot[step:])))
    return found


def need_of(first, second, pairs):
    """Return a number with one bit for the place of each pair that tells two rows apart."""
    bits = [1 << at for at, (a, b) in enumerate(pairs) if abs(first[a] - first[b]) != abs(second[a] - second[b])]
    return sum(bits)


def many_bits(need):
    """Return the number of pairs of a need."""
    digits = f"{need:b}"
    return digits.count("1")


def least_needs(needs):
    """Return the needs, each once, without those that are met whenever another one is; short ones first."""
    kept = []
    for need in sorted(list({need: True for need in needs}), key=many_bits):
        if not any([other & need == other for other in kept]):
            kept.append(need)
    return kept


def first_cover(needs, size, count):
    """Return the first list of so few of the places that meets all needs."""
    chosen = []
    for at in range(count):
        bit = 1 << at
        rest = [need for need in needs if not need & bit]
        if len(rest) < len(needs) and can_cover(rest, size - len(chosen) - 1):
            chosen.append(at)
            needs = rest
        else:
            needs = [need & ~bit for need in needs]
    return chosen


def can_cover(needs, most):
    """Tell whether at most so many places meet all needs."""
    if not needs:
        return True
    needs = sorted(needs, key=many_bits)
    if lonely_needs(needs) > most:
        return False
    passed = 0
    for bit in bits_of(needs[0]):
        rest = [need & ~passed for need in needs if not need & bit]
        if 0 not in rest and can_cover(rest, most - 1):
            return True
        # Every cover with this place has been tried.
        passed = passed | bit
    return False


def lonely_needs(needs):
    """Return a number of needs of which no place meets two."""
    many = 0
    used = 0
    for need in needs:
        if not need & used:
            many += 1
            used = used | need
    return many


def bits_of(need):
    """Return the bits of a need."""
    return [1 << at for at in range(need.bit_length()) if need & (1 << at)]


class Planner:
    """Finds strategies of least depth. Shapes are given by their indexes, and sets of shapes by ascending tuples."""

    def __init__(self, names, pairs, rows):
        self._rows = rows
        self._pairs = [(names[a], names[b]) for a, b in pairs]
        self._columns = [[abs(row[a] - row[b]) for row in rows] for a, b in pairs]
        self._known = {}

    def tree(self, members):
        """Return the strategy for these shapes."""
        if len(members) == 1:
            return ("shape", self._rows[members[0]])
        depth = 1
        while self._first(members, depth) is None:
            depth += 1
        at = self._first(members, depth)
        a, b = self._pairs[at]
        return ("strike", a, b, [(beats, self.tree(lot)) for beats, lot in self._divided(members, at)])

    def _divided(self, members, at):
        """Return the shapes divided by their beats at one pair, ascending."""
        column = self._columns[at]
        lots = {}
        for index in members:
            lots.setdefault(column[index], []).append(index)
        return [(beats, tuple(lots[beats])) for beats in sorted(lots)]

    def _first(self, members, depth):
        """Return the place of the first pair with which a strategy of this depth may begin, or None."""
        key = (members, depth)
        if key not in self._known:
            self._known[key] = self._search(members, depth)
        return self._known[key]

    def _search(self, members, depth):
        found = [[lot for _, lot in self._divided(members, at)] for at in range(len(self._pairs))]
        sizes = [len(lots) for lots in found]
        if len(members) > most_leaves(sizes, depth):
            return None
        room = most_leaves(sizes, depth - 1)
        for at, lots in enumerate(found):
            # The greatest part is the likeliest one to need more strikes.
            ordered = sorted(lots, key=len, reverse=True)
            if len(lots) > 1 and len(ordered[0]) <= room and self._can_settle(ordered, depth - 1):
                return at
        return None

    def _can_settle(self, lots, depth):
        for lot in lots:
            if len(lot) > 1 and self._first(lot, depth) is None:
                return False
        return True


def most_leaves(sizes, depth):
    """Return how many shapes a strategy can tell apart if its pairs divide them into so many parts."""
    many = 1
    for size in sorted(sizes, reverse=True)[:depth]:
        many = many * size
    return many
