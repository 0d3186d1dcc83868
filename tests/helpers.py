"""What several tests share."""

from forkbeats.errors import ForkError, NothingToRedo


def caught(act, *args, **more):
    """Return the class and the attributes of the error that the call raises."""
    try:
        act(*args, **more)
    except ForkError as error:
        return type(error), vars(error)
    raise AssertionError("the call raised no error of the program")


def undone(bench):
    """Return the texts of the undone deeds, in the order in which they would be redone."""
    texts = []
    try:
        while True:
            texts.append(bench.redo())
    except NothingToRedo:
        pass
    for _ in texts:
        bench.undo()
    return texts


def told(bench):
    """Return what a bench tells of itself, to compare it later."""
    return (
        bench.forks(), bench.strikes(), bench.facts(), bench.limit, bench.rounds, bench.history(), undone(bench),
    )
