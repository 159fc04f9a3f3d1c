"""What counts as an integer, a name, a time and a number of turns, and what has a name."""

from stoppoints.errors import InvalidName, InvalidTurns, UnknownName

GREATEST_TIME = 10 ** 30
# The times of limits, and the numbers that are written in the same way, are less than this.
ABOVE_LIMITS = 10 ** 60
LONGEST_NAME = 8
LETTERS = "abcdefghijklmnopqrstuvwxyz"


def is_whole(value):
    """Whether a value is an integer: True and False are none here."""
    return isinstance(value, int) and not isinstance(value, bool)


def is_between(value, low, high):
    """Whether a value is an integer from low to high."""
    return is_whole(value) and low <= value <= high


def is_time(value):
    """Whether a value is a time."""
    return is_between(value, 0, GREATEST_TIME)


def is_name(value):
    """Whether a value is a name."""
    if not isinstance(value, str) or not 1 <= len(value) <= LONGEST_NAME:
        return False
    return all([letter in LETTERS for letter in value])


def check_name(name):
    """Refuses what is no name."""
    if not is_name(name):
        raise InvalidName(name)


def check_known(name, known):
    """Refuses what is no name of these."""
    if name not in known:
        raise UnknownName(name)


def check_turns(low, high):
    """Refuses what cannot be the least and the greatest number of turns of a loop."""
    if not is_time(low):
        raise InvalidTurns(low)
    if high is not None and not is_between(high, low, GREATEST_TIME):
        raise InvalidTurns(high)
