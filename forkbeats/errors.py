"""The errors of the program, one class for each kind of failure."""


class ForkError(ValueError):
    """The base class of all errors of the program."""


class BadName(ForkError):
    """A string is no name."""

    def __init__(self, name):
        super().__init__(f"not a name: {name!r}")
        self.name = name


class UnknownFork(ForkError):
    """There is no fork of this name."""

    def __init__(self, name):
        super().__init__(f"unknown fork: {name!r}")
        self.name = name


class RepeatedFork(ForkError):
    """A name stands where it must not stand again."""

    def __init__(self, name):
        super().__init__(f"repeated fork: {name!r}")
        self.name = name


class BadCount(ForkError):
    """A number of beats is negative or too great."""

    def __init__(self, count):
        super().__init__(f"count out of range: {count}")
        self.count = count


class BadLimit(ForkError):
    """A limit is out of its range."""

    def __init__(self, value):
        super().__init__(f"limit out of range: {value}")
        self.value = value


class BadWord(ForkError):
    """A word names nothing that can be changed."""

    def __init__(self, word):
        super().__init__(f"unknown word: {word!r}")
        self.word = word


class BadText(ForkError):
    """A text is not the written form of anything."""

    def __init__(self, text):
        super().__init__(f"not a written form: {text!r}")
        self.text = text


class BadStep(ForkError):
    """A step of a scale is less than 1."""

    def __init__(self, step):
        super().__init__(f"step less than 1: {step}")
        self.step = step


class BadLot(ForkError):
    """No row of pitches has this number of beats."""

    def __init__(self, size):
        super().__init__(f"not the size of a lot of beats: {size}")
        self.size = size


class TooDeep(ForkError):
    """A compound fact is too deep."""

    def __init__(self, depth):
        super().__init__(f"fact too deep: {depth}")
        self.depth = depth


class TooMany(ForkError):
    """There are more things of a kind than there may be."""

    def __init__(self, what, most):
        super().__init__(f"too many {what}: at most {most}")
        self.what = what
        self.most = most


class Clash(ForkError):
    """A name has different pitches in two tunings."""

    def __init__(self, name):
        super().__init__(f"different pitches: {name!r}")
        self.name = name


class Apart(ForkError):
    """Two forks are not in the same piece."""

    def __init__(self, first, second):
        super().__init__(f"not in one piece: {first!r} and {second!r}")
        self.first = first
        self.second = second


class NoStrike(ForkError):
    """There is no strike with this index."""

    def __init__(self, index):
        super().__init__(f"no strike: {index}")
        self.index = index


class NoBlock(ForkError):
    """There is no block with this index."""

    def __init__(self, index):
        super().__init__(f"no block: {index}")
        self.index = index


class NoFitting(ForkError):
    """The bench has no fitting."""

    def __init__(self):
        super().__init__("the bench has no fitting")


class NothingToUndo(ForkError):
    """No deed is in force."""

    def __init__(self):
        super().__init__("nothing to undo")


class NothingToRedo(ForkError):
    """No deed is undone."""

    def __init__(self):
        super().__init__("nothing to redo")


class LineError(ForkError):
    """A line of a call is refused."""

    def __init__(self, index, line):
        super().__init__(f"line {index} is refused: {line!r}")
        self.index = index
        self.line = line
