"""Rows of pitches and the beats of all their pairs, and forks that are tuned to the degrees of a scale."""

from forkbeats.bench import check_room
from forkbeats.errors import BadLot, BadStep
from forkbeats.facts import check_count
from forkbeats.fittings import scale_rows

# The numbers of beats that rows of 1 to 7 pitches have.
LOTS = (0, 1, 3, 6, 10, 15, 21)
MOST_STEPS = 12


def beats_of(pitches):
    """Return the beats, ascending, of all pairs of the pitches."""
    return sorted([abs(first - second) for at, first in enumerate(pitches) for second in pitches[:at]])


def alike_in_beats(first, second):
    """Tell whether two lists of pitches have the same beats."""
    return beats_of(first) == beats_of(second)


def sums(first, second):
    """Return the sums, ascending, of each item of the first and each item of the second list."""
    return sorted([x + y for x in first for y in second])


def differences(first, second):
    """Return the differences, ascending, of each item of the first and each item of the second list."""
    return sorted([x - y for x in first for y in second])


def rebuild(beats):
    """Return the rows that have these beats, of a row and its mirror image only the lesser one."""
    if len(beats) not in LOTS:
        raise BadLot(len(beats))
    for count in beats:
        check_count(count)
    if not beats:
        return [(0,)]
    rest = sorted(beats)
    length = rest.pop()
    rows = [tuple(sorted(row)) for row in rows_with([0, length], rest)]
    return sorted(list({min(row, mirrored(row)): True for row in rows}))


def rows_with(placed, rest):
    """Return the lists of pitches that begin with the placed ones and have the rest as further beats, ascending.

    The first two are the least and the greatest pitch. The greatest of the further beats are those of the next pitch
    with one of these two, because every other pitch that is not placed is nearer to both of them.
    """
    if not rest:
        return [placed]
    found = []
    for pitch in (rest[-1], placed[1] - rest[-1]):
        left = without(rest, [abs(pitch - other) for other in placed])
        if left is not None:
            found.extend(rows_with(placed + [pitch], left))
    return found


def without(things, used):
    """Return the things without the used ones, or None if one of these is missing."""
    left = list(things)
    for thing in used:
        if thing not in left:
            return None
        left.remove(thing)
    return left


def mirrored(row):
    """Return the mirror image of an ascending row."""
    return tuple([row[-1] - pitch for pitch in row[::-1]])


def degrees(bench, steps):
    """Return the degrees, ascending, that the forks may have if each has the pitch of a degree."""
    check_room("steps", len(steps), MOST_STEPS)
    for step in steps:
        if step < 1:
            raise BadStep(step)
    scale = [sum(steps[:at]) for at in range(len(steps) + 1)]
    places = {pitch: at for at, pitch in enumerate(scale)}
    return [tuple([places[pitch] for pitch in row]) for row in scale_rows(bench, scale)]
