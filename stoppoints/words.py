"""Words for numbers, limits and spans."""

from stoppoints.checks import ABOVE_LIMITS
from stoppoints.errors import InvalidText
from stoppoints.spans import Span
from stoppoints.texts import DIGITS

# The numbers below ABOVE_LIMITS have so many digits at most.
MOST_DIGITS = 60


def is_number(word, most):
    """Whether a word is a number of at most so many decimal digits, without leading zeros."""
    if not 1 <= len(word) <= most or not all([sign in DIGITS for sign in word]):
        return False
    return word == "0" or word[0] != "0"


def read_number(word):
    """The number of a word."""
    if not is_number(word, MOST_DIGITS):
        raise InvalidText(word)
    return int(word)


def read_limit(word):
    """The limit of a word, a Span or None."""
    if word == "none":
        return None
    return Span.endless() if word == "endless" else Span(read_number(word))


def show_limit(limit):
    """The word of a limit, a Span or None."""
    return "none" if limit is None else show_span(limit)


def show_span(span):
    """The word of a span, of any size."""
    if span.is_endless():
        return "endless"
    return str(span.time) if span.time < ABOVE_LIMITS else "beyond"
