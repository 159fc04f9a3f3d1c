"""The numbers of a code: how long its walks can go without a look."""

from stoppoints.checks import check_turns
from stoppoints.codes import Call, pieces_of
from stoppoints.errors import InvalidNumber, UnknownName
from stoppoints.measures import ENDLESS, in_call, in_either, in_row, in_turns, measured
from stoppoints.programs import calls_of
from stoppoints.spans import Span, greatest

WAYS = ("on", "leave", "return")
NO_WAY = (None, None, None)
# The goals of measures that are numbers, in the order of all_eight.
EIGHT = ("on", "leave", "return", "tail on", "tail leave", "tail return", "head", "inner")


class Numbers:
    """Eight spans or Nones: through and tail by the ways out of a code, the head and the inner one."""

    def __init__(self, *, through, tail, head, inner):
        check_ways(through)
        check_ways(tail)
        if not isinstance(head, Span):
            raise InvalidNumber(head)
        if inner is not None and not isinstance(inner, Span):
            raise InvalidNumber(inner)
        if not is_at_most(greatest(through), head):
            raise InvalidNumber(head)
        if not is_at_most(greatest(tail), inner):
            raise InvalidNumber(inner)
        self._through = through
        self._tail = tail
        self._head = head
        self._inner = inner

    @staticmethod
    def of_nothing():
        """Those of an empty row."""
        return Numbers.of_work(0)

    @staticmethod
    def of_work(time):
        """Those of a work."""
        return Numbers(through=(Span(time), None, None), tail=NO_WAY, head=Span(time), inner=None)

    @staticmethod
    def of_look(cost):
        """Those of a look of this cost."""
        return Numbers(through=NO_WAY, tail=(Span(0), None, None), head=Span(cost), inner=Span(0))

    @staticmethod
    def of_stand():
        """Those of a stand."""
        return Numbers.of_look(0)

    @staticmethod
    def of_leave():
        """Those of a leave."""
        return Numbers(through=(None, Span(0), None), tail=NO_WAY, head=Span(0), inner=None)

    @staticmethod
    def of_return():
        """Those of a return."""
        return Numbers(through=(None, None, Span(0)), tail=NO_WAY, head=Span(0), inner=None)

    def through(self, way):
        """The greatest time of the walks without a look, out by this way."""
        return self._through[index_of(way)]

    def tail(self, way):
        """The greatest time from the last look to the way out."""
        return self._tail[index_of(way)]

    @property
    def head(self):
        """The greatest first stretch."""
        return self._head

    @property
    def inner(self):
        """The greatest stretch that begins at a look, or None."""
        return self._inner

    @property
    def span(self):
        """The greatest stretch."""
        return greatest([self._head, self._inner])

    def __add__(self, other):
        if not isinstance(other, Numbers):
            return NotImplemented
        return numbers_from(in_row(measures_of(self), measures_of(other)))

    def __or__(self, other):
        if not isinstance(other, Numbers):
            return NotImplemented
        return numbers_from(in_either([measures_of(self), measures_of(other)]))

    def turned(self, low, high):
        """The numbers of a loop of a code with these."""
        check_turns(low, high)
        return numbers_from(in_turns(measures_of(self), low, high))

    def called(self):
        """The numbers of a call of a function whose code has these."""
        return numbers_from(in_call(measures_of(self)))

    def __le__(self, other):
        if not isinstance(other, Numbers):
            return NotImplemented
        return all([is_at_most(mine, theirs) for mine, theirs in zip(all_eight(self), all_eight(other))])

    def __eq__(self, other):
        return isinstance(other, Numbers) and all_eight(self) == all_eight(other)


def check_ways(spans):
    """Refuses what is no tuple of a span or None for each way."""
    if not isinstance(spans, tuple) or len(spans) != len(WAYS):
        raise InvalidNumber(spans)
    if not all([span is None or isinstance(span, Span) for span in spans]):
        raise InvalidNumber(spans)


def index_of(way):
    """The index of a way out."""
    if not isinstance(way, str) or way not in WAYS:
        raise UnknownName(way)
    return WAYS.index(way)


def is_at_most(one, other):
    """Whether a span or None is at most another one, None being below all."""
    return one is None or (other is not None and one <= other)


def all_eight(numbers):
    """The three of through, the three of tail, head and inner."""
    through = [numbers.through(way) for way in WAYS]
    tail = [numbers.tail(way) for way in WAYS]
    return through + tail + [numbers.head, numbers.inner]


def of_eight(spans):
    """The numbers of which these are all eight."""
    return Numbers(through=tuple(spans[:3]), tail=tuple(spans[3:6]), head=spans[6], inner=spans[7])


def measures_of(numbers):
    """The measures with these numbers."""
    times = [time_of(span) for span in all_eight(numbers)]
    found = {goal: time for goal, time in zip(EIGHT, times)}
    found["pass"] = None if found["on"] is None and found["tail on"] is None else 0
    return found


def numbers_from(measures):
    """The numbers that these measures tell."""
    return of_eight([span_from(measures[goal]) for goal in EIGHT])


def time_of(span):
    """The time of a span or None, as measures have it."""
    if span is None:
        return None
    return ENDLESS if span.is_endless() else span.time


def span_from(time):
    """The span or None that a time of measures stands for."""
    if time is None:
        return None
    return Span.endless() if time == ENDLESS else Span(time)


def numbers_by(code, told):
    """The numbers of a code in which the calls have the numbers that are told by names."""
    check_calls(code, told)
    by_names = {name: measures_of(told[name]) for name in calls_of(code)}
    return numbers_from(measured(code, by_names))


def check_calls(code, known):
    """Refuses the first call of a name that is not known."""
    for piece in pieces_of(code):
        if isinstance(piece, Call) and piece.name not in known:
            raise UnknownName(piece.name)
