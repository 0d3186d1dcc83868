"""What several tests share."""

from forkbeats.errors import ForkError


def caught(act, *args, **more):
    """Return the class and the attributes of the error that the call raises."""
    try:
        act(*args, **more)
    except ForkError as error:
        return type(error), vars(error)
    raise AssertionError("the call raised no error of the program")
