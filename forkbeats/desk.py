"""A desk: a bench that is worked with written lines, and a table of strikes."""

from forkbeats.bench import Bench
from forkbeats.errors import BadText, ForkError, LineError
from forkbeats.fittings import count_fittings
from forkbeats.notation import count_in, parse_fact
from forkbeats.verdicts import possible_beats, verdict_word


class Desk:
    """A bench of its own, and the lines that change it or ask it."""

    def __init__(self):
        self.bench = Bench()

    def run(self, *lines):
        """Carry out the lines and return their answers; if one is refused, the bench is as it was before."""
        before = self.bench.twin()
        answers = []
        for index, line in enumerate(lines):
            try:
                answers.append(answer(self.bench, line))
            except ForkError as error:
                self.bench.become(before)
                raise LineError(index, line) from error
        return answers


def answer(bench, line):
    """Carry out a line and return its answer, or raise if it is refused."""
    word, _, rest = line.partition(" ")
    if word == "tell":
        return f"fact {bench.tell(parse_fact(rest))}"
    if word == "ask":
        return verdict_word(bench, parse_fact(rest))
    words = line.split(" ")
    # Two spaces together, or one at the beginning or the end, leave an empty word.
    if "" in words:
        raise BadText(line)
    if word in ("undo", "redo", "count"):
        return bare_answer(bench, words)
    return worded_answer(bench, words)


def bare_answer(bench, words):
    """Carry out a line of one word."""
    match words:
        case ["undo"]:
            return f"undone {bench.undo()}"
        case ["redo"]:
            return f"redone {bench.redo()}"
        case ["count"]:
            return f"count {count_fittings(bench)}"
    raise BadText(" ".join(words))


def worded_answer(bench, words):
    """Carry out a line with names or numbers."""
    match words:
        case ["add", first, *others]:
            bench.add_all([first, *others])
            return f"added {len(bench.forks())}"
        case ["strike", a, b, count]:
            return f"strike {bench.strike(a, b, count_in(count))}"
        case ["limit", value]:
            bench.change("limit", count_in(value))
            return f"limit {bench.limit}"
        case ["beats", a, b]:
            return " ".join(["beats"] + spelled(possible_beats(bench, a, b)))
    raise BadText(" ".join(words))


def spelled(numbers):
    """Return the numbers as words."""
    return [str(number) for number in numbers]


def table(bench):
    """Return a line for each strike."""
    return [f"{index:>3} {a:<12} {b:<12} {count:>10}" for index, (a, b, count) in enumerate(bench.strikes())]
