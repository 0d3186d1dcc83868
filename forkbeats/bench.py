"""Benches: forks, the strikes of pairs of them, the facts that are told, and the deeds behind them."""

from forkbeats.errors import Apart, BadLimit, BadWord, RepeatedFork, TooMany, UnknownFork
from forkbeats.errors import NothingToRedo, NothingToUndo
from forkbeats.facts import check_count, spaced, without_repeats
from forkbeats.words import check_name


def check_limit(value):
    """Raise BadLimit if the value is no limit of a bench."""
    if value < 0 or value > Bench.MOST_LIMIT:
        raise BadLimit(value)


def check_room(what, many, most):
    """Raise TooMany if there would be more things of a kind than there may be."""
    if many > most:
        raise TooMany(what, most)


def check_new(names, forks):
    """Raise for the first name that is invalid, is among the forks or stands earlier among the names."""
    seen = {name: True for name in forks}
    for name in names:
        check_name(name)
        if name in seen:
            raise RepeatedFork(name)
        seen[name] = True


def check_known(names, forks):
    """Raise UnknownFork for the first name that is not among the forks."""
    for name in names:
        if name not in forks:
            raise UnknownFork(name)


def check_strike(forks, a, b, count):
    """Raise if these forks cannot give so many beats together."""
    check_known([a, b], forks)
    if a == b:
        raise RepeatedFork(b)
    check_count(count)


def check_question(forks, strikes, fact):
    """Raise if a fork of the fact is unknown, or not in the same piece as the first one."""
    names = fact.forks()
    check_known(names, forks)
    first = names[0]
    here = [piece for piece in pieces_of(forks, strikes) if first in piece][0]
    for name in names:
        if name not in here:
            raise Apart(first, name)


def merged(things, groups):
    """Divide the things into as many classes as possible, with all things of a group in one class.

    Each class is in the order of the things, and the classes are in the order of their first things.
    """
    label = {thing: thing for thing in things}
    for group in groups:
        old = [label[thing] for thing in group]
        label = {thing: old[0] if label[thing] in old else label[thing] for thing in label}
    classes = {}
    for thing in things:
        classes.setdefault(label[thing], []).append(thing)
    return list(classes.values())


def pieces_of(forks, strikes):
    """Return the lists of the forks that strikes lead to from one another."""
    return merged(forks, [(a, b) for a, b, _ in strikes])


class Bench:
    """Forks, strikes, facts and a limit, with the history of the deeds that made them."""

    MOST_FORKS = 10
    MOST_STRIKES = 20
    MOST_FACTS = 12
    MOST_LIMIT = 3

    def __init__(self, limit=0):
        check_limit(limit)
        self._forks = ()
        self._strikes = ()
        self._facts = ()
        self._limit = limit
        # A deed in force is kept with the state before it, an undone deed with the state after it.
        self._done = []
        self._undone = []

    @classmethod
    def of(cls, *strikes, limit=0):
        """Return a bench with these strikes, to which their forks are added where they first occur."""
        bench = cls(limit)
        for a, b, count in strikes:
            for name in (a, b):
                if name not in bench.forks():
                    bench.add(name)
            bench.strike(a, b, count)
        return bench

    def add(self, *names):
        """Add forks in the order of the call."""
        self.add_all(names)

    def add_all(self, names):
        """Do what one call of `add` with these names does."""
        check_new(names, self._forks)
        check_room("forks", len(self._forks) + len(names), Bench.MOST_FORKS)
        self._begin(spaced("add", *names))
        self._forks = self._forks + tuple(names)

    def strike(self, a, b, count):
        """Record the beats of two forks and return the index of the strike."""
        check_strike(self._forks, a, b, count)
        check_room("strikes", len(self._strikes) + 1, Bench.MOST_STRIKES)
        self._begin(f"strike {a} {b} {count}")
        self._strikes = self._strikes + ((a, b, count),)
        return len(self._strikes) - 1

    def tell(self, fact):
        """Record a fact and return its index."""
        check_question(self._forks, self._strikes, fact)
        check_room("facts", len(self._facts) + 1, Bench.MOST_FACTS)
        self._begin(f"tell {fact}")
        self._facts = self._facts + (fact,)
        return len(self._facts) - 1

    def change(self, what, value):
        """Set the limit, which is all that can be changed."""
        if what != "limit":
            raise BadWord(what)
        check_limit(value)
        self._begin(f"limit {value}")
        self._limit = value

    def undo(self):
        """Take back the latest deed and return its text."""
        if not self._done:
            raise NothingToUndo()
        return self._shift(self._done, self._undone)

    def redo(self):
        """Do the latest undone deed again and return its text."""
        if not self._undone:
            raise NothingToRedo()
        return self._shift(self._undone, self._done)

    def history(self):
        """Return the texts of the deeds that are in force, oldest first."""
        return [text for text, _ in self._done]

    def forks(self):
        """Return the names of the forks in bench order."""
        return list(self._forks)

    def strikes(self):
        """Return the strikes as tuples (a, b, count)."""
        return list(self._strikes)

    def facts(self):
        """Return the written forms of the facts."""
        return [str(fact) for fact in self._facts]

    def told(self):
        """Return the facts themselves."""
        return list(self._facts)

    def twin(self):
        """Return a bench like this one, with the same deeds done and undone."""
        bench = Bench()
        bench.become(self)
        return bench

    def become(self, other):
        """Take over the state of another bench, with its deeds done and undone."""
        self._restore(other._state())
        self._done = list(other._done)
        self._undone = list(other._undone)

    @property
    def limit(self):
        """The greatest number of counts that may be wrong by one."""
        return self._limit

    @limit.setter
    def limit(self, value):
        self.change("limit", value)

    @property
    def rounds(self):
        """The number of strikes, minus the number of forks, plus the number of pieces."""
        return len(self._strikes) - len(self._forks) + len(pieces_of(self._forks, self._strikes))

    def _begin(self, text):
        """Note the text of a deed that has passed its checks, and forget the undone deeds."""
        self._done.append((text, self._state()))
        self._undone = []

    def _shift(self, source, target):
        """Move the latest deed of the source to the target, and go to the state that it was kept with."""
        text, state = source.pop()
        target.append((text, self._state()))
        self._restore(state)
        return text

    def _state(self):
        return self._forks, self._strikes, self._facts, self._limit

    def _restore(self, state):
        self._forks, self._strikes, self._facts, self._limit = state


def joined(first, second):
    """Return a new bench with the forks, strikes and facts of both."""
    bench = Bench(max(first.limit, second.limit))
    bench.add_all(without_repeats(first.forks() + second.forks()))
    for a, b, count in first.strikes() + second.strikes():
        bench.strike(a, b, count)
    for fact in first.told() + second.told():
        bench.tell(fact)
    return bench
