"""Spans: times without a bound on their size, or endless."""

from stoppoints.checks import is_whole
from stoppoints.errors import InvalidTime


class Span:
    """A time of any size, or endless, which is a time of None."""

    def __init__(self, time):
        if time is not None and not is_size(time):
            raise InvalidTime(time)
        self.time = time

    @staticmethod
    def endless():
        """The span that is above all times."""
        return Span(None)

    def is_endless(self):
        """Whether the span has no end."""
        return self.time is None

    def __add__(self, other):
        return together(self, other)

    def __radd__(self, other):
        return together(self, other)

    def __mul__(self, other):
        return repeated(self, other)

    def __rmul__(self, other):
        return repeated(self, other)

    def __lt__(self, other):
        check_span(other)
        return is_below(self, other)

    def __le__(self, other):
        check_span(other)
        return not is_below(other, self)

    def __gt__(self, other):
        check_span(other)
        return is_below(other, self)

    def __ge__(self, other):
        check_span(other)
        return not is_below(self, other)

    def __eq__(self, other):
        return isinstance(other, Span) and self.time == other.time


def is_size(value):
    """Whether a value is an integer from 0 on."""
    return is_whole(value) and value >= 0


def together(span, other):
    """A span and another one, or an integer that stands for one."""
    if isinstance(other, Span):
        time = other.time
    elif is_size(other):
        time = other
    else:
        raise InvalidTime(other)
    if span.time is None or time is None:
        return Span.endless()
    return Span(span.time + time)


def repeated(span, count):
    """A span so many times."""
    if not is_size(count):
        raise InvalidTime(count)
    if count == 0:
        return Span(0)
    if span.time is None:
        return Span.endless()
    return Span(span.time * count)


def check_span(other):
    """Refuses to compare with a value that is no span, also where that value could compare itself."""
    if not isinstance(other, Span):
        raise TypeError("a span is compared with spans only")


def is_below(span, other):
    """Whether a span is less than another one."""
    if span.time is None:
        return False
    return other.time is None or span.time < other.time


def greatest(spans):
    """The greatest of spans and Nones, of which a None is below all."""
    best = None
    for span in spans:
        if best is None or (span is not None and best < span):
            best = span
    return best
