"""Names and numbers as they are written."""

from forkbeats.errors import BadName

MOST_LETTERS = 12


def is_name(word):
    """Tell whether the word is a name: 1 to 12 characters, each from a to z."""
    return len(word) <= MOST_LETTERS and word.isascii() and word.isalpha() and word.islower()


def check_name(word):
    """Raise BadName if the word is no name."""
    if not is_name(word):
        raise BadName(word)


def is_numeral(word, most):
    """Tell whether the word is a number of 1 to `most` digits without a leading zero."""
    if len(word) > most or not (word.isascii() and word.isdigit()):
        return False
    return word == "0" or not word.startswith("0")
