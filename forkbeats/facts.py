"""Facts: statements about the pitches of some forks, which hold for a tuning or break."""

from forkbeats.errors import BadCount, RepeatedFork, TooDeep, UnknownFork
from forkbeats.words import check_name


def check_names(names):
    """Raise BadName for the first invalid name."""
    for name in names:
        check_name(name)


def check_different(names):
    """Raise RepeatedFork for the first name that stands earlier in the list."""
    seen = {}
    for name in names:
        if name in seen:
            raise RepeatedFork(name)
        seen[name] = True


def check_alone(names):
    """Check the names of a fact in which no name may repeat."""
    check_names(names)
    check_different(names)


def check_pairs(names):
    """Check the names of two pairs, each of which has two different names."""
    check_names(names)
    check_different(names[:2])
    check_different(names[2:])


def check_count(count):
    """Raise BadCount if the number of beats is out of range."""
    if count < 0 or count > Fact.MOST_COUNT:
        raise BadCount(count)


def without_repeats(names):
    """Return the names in the order of their first occurrence."""
    return list({name: True for name in names})


def spaced(word, *others):
    """Return the words with one space between them."""
    return " ".join([word, *others])


def depth_over(parts):
    """Return the depth of a fact with these parts, or raise TooDeep."""
    depth = 1 + max([part.depth for part in parts], default=0)
    if depth > Fact.MOST_DEPTH:
        raise TooDeep(depth)
    return depth


class Fact:
    """The base class of all facts; a fact never changes."""

    MOST_DEPTH = 6
    MOST_COUNT = 1000000000

    def __init__(self, text, names, parts):
        self.depth = depth_over(parts)
        self._text = text
        self._forks = without_repeats(names)
        self._parts = parts

    def forks(self):
        """Return the list of the names in the order of their first occurrence."""
        return list(self._forks)

    def __call__(self, tuning):
        """Tell whether the fact holds for the tuning."""
        for name in self._forks:
            if name not in tuning:
                raise UnknownFork(name)
        return self._holds(tuning)

    def __invert__(self):
        return Not(self)

    def __and__(self, other):
        return Both(self, other)

    def __or__(self, other):
        return Either(self, other)

    def __str__(self):
        return str(self._text)

    def _holds(self, tuning):
        raise NotImplementedError("each kind of fact tells when it holds")


class Above(Fact):
    """The pitch of a is greater than the pitch of b."""

    def __init__(self, a, b):
        check_alone([a, b])
        super().__init__(spaced("above", a, b), [a, b], [])

    def _holds(self, tuning):
        a, b = [tuning[name] for name in self._forks]
        return a > b


class InTune(Fact):
    """The pitches of a and b are equal."""

    def __init__(self, a, b):
        check_alone([a, b])
        super().__init__(spaced("intune", a, b), [a, b], [])

    def _holds(self, tuning):
        a, b = [tuning[name] for name in self._forks]
        return a == b


class Between(Fact):
    """The pitch of b lies strictly between the pitches of a and c."""

    def __init__(self, a, b, c):
        check_alone([a, b, c])
        super().__init__(spaced("between", a, b, c), [a, b, c], [])

    def _holds(self, tuning):
        a, b, c = [tuning[name] for name in self._forks]
        return a < b < c or c < b < a


class Highest(Fact):
    """The pitch of a is greater than the pitch of each of the others."""

    def __init__(self, a, *others):
        check_alone([a, *others])
        super().__init__(spaced("highest", a, *others), [a, *others], [])

    def _holds(self, tuning):
        a, *others = [tuning[name] for name in self._forks]
        return all([a > pitch for pitch in others])


class AsOften(Fact):
    """The beats of a and b equal the beats of c and d."""

    def __init__(self, a, b, c, d):
        check_pairs([a, b, c, d])
        super().__init__(spaced("asoften", a, b, c, d), [a, b, c, d], [])
        self._pairs = ((a, b), (c, d))

    def _holds(self, tuning):
        (a, b), (c, d) = self._pairs
        return tuning.beats(a, b) == tuning.beats(c, d)


class MoreOften(Fact):
    """The beats of a and b are greater than the beats of c and d."""

    def __init__(self, a, b, c, d):
        check_pairs([a, b, c, d])
        super().__init__(spaced("moreoften", a, b, c, d), [a, b, c, d], [])
        self._pairs = ((a, b), (c, d))

    def _holds(self, tuning):
        (a, b), (c, d) = self._pairs
        return tuning.beats(a, b) > tuning.beats(c, d)


class Trio(Fact):
    """Three forks that are struck together give these three beats, in any order."""

    def __init__(self, a, b, c, *, beats):
        check_alone([a, b, c])
        for count in beats:
            check_count(count)
        counts = sorted(beats)
        low, middle, high = counts
        super().__init__(f"trio {a} {b} {c} {low} {middle} {high}", [a, b, c], [])
        self._counts = counts

    def _holds(self, tuning):
        a, b, c = self._forks
        return sorted([tuning.beats(a, b), tuning.beats(b, c), tuning.beats(a, c)]) == self._counts


class Not(Fact):
    """The fact breaks."""

    def __init__(self, fact):
        super().__init__(f"not ({fact})", fact.forks(), [fact])

    def _holds(self, tuning):
        return not self._parts[0]._holds(tuning)


class Both(Fact):
    """The first and the second fact hold."""

    def __init__(self, first, second):
        names = first.forks() + second.forks()
        super().__init__(f"both ({first}) ({second})", names, [first, second])

    def _holds(self, tuning):
        first, second = self._parts
        return first._holds(tuning) and second._holds(tuning)


class Either(Fact):
    """The first or the second fact holds, or both."""

    def __init__(self, first, second):
        names = first.forks() + second.forks()
        super().__init__(f"either ({first}) ({second})", names, [first, second])

    def _holds(self, tuning):
        first, second = self._parts
        return first._holds(tuning) or second._holds(tuning)
