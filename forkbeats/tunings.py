"""Tunings: ordered lists of different names, each with a pitch."""

from forkbeats.errors import BadText, Clash, RepeatedFork, UnknownFork
from forkbeats.words import check_name, is_name, is_numeral

MOST_DIGITS = 40


def table_of(names, pitches):
    """Return the pitches by their names, in order, or raise for the first wrong name."""
    table = {}
    for name, pitch in zip(names, pitches):
        check_name(name)
        if name in table:
            raise RepeatedFork(name)
        table[name] = pitch
    return table


def is_pitch(word):
    """Tell whether the word is a written pitch that is not too long to be read."""
    return word != "-0" and is_numeral(word.removeprefix("-"), MOST_DIGITS)


class Tuning:
    """An ordered list of different names, each with a pitch; it never changes."""

    def __init__(self, names, pitches):
        self._table = table_of(names, pitches)
        # Two tables are equal in any order of their names, two tunings are not.
        self._names = list(names)

    @classmethod
    def of(cls, **pitches):
        """Return the tuning with the keywords as its names, in the order of the call."""
        return cls(list(pitches), list(pitches.values()))

    @staticmethod
    def read(text):
        """Return the tuning whose written form is the text, or raise BadText."""
        if text == "":
            return Tuning([], [])
        table = {}
        for word in text.split(" "):
            name, _, pitch = word.partition("=")
            if name in table or not is_name(name) or not is_pitch(pitch):
                raise BadText(text)
            table[name] = int(pitch)
        return Tuning(list(table), list(table.values()))

    def names(self):
        """Return the list of the names in order."""
        return list(self._names)

    def pitches(self):
        """Return the tuple of the pitches in the order of the names."""
        return tuple(self._table.values())

    def beats(self, a, b):
        """Return the beats of two names, which may be the same."""
        return abs(self[a] - self[b])

    def normal(self):
        """Return the tuning minus the pitch of its first name."""
        if not self._names:
            return self
        return self - self[self._names[0]]

    def like(self, other):
        """Tell whether the tunings are the same up to sliding and turning over."""
        slid = self.normal()
        turned = -other
        return slid == other.normal() or slid == turned.normal()

    def __getitem__(self, at):
        if at not in self._table:
            raise UnknownFork(at)
        return self._table[at]

    def __contains__(self, x):
        return x in self._table

    def __len__(self):
        return len(self._names)

    def __iter__(self):
        return iter(self._names)

    def __eq__(self, other):
        return isinstance(other, Tuning) and self._names == other._names and self._table == other._table

    def __neg__(self):
        return Tuning(self._names, [-pitch for pitch in self.pitches()])

    def __add__(self, other):
        return Tuning(self._names, [pitch + other for pitch in self.pitches()])

    def __radd__(self, other):
        return self + other

    def __sub__(self, other):
        return Tuning(self._names, [pitch - other for pitch in self.pitches()])

    def __abs__(self):
        if not self._names:
            return 0
        return max(self.pitches()) - min(self.pitches())

    def __or__(self, other):
        table = dict(self._table)
        for name in other:
            if name not in table:
                table[name] = other[name]
            elif table[name] != other[name]:
                raise Clash(name)
        return Tuning(list(table), list(table.values()))

    def __str__(self):
        return " ".join([f"{name}={self._table[name]}" for name in self._names])
