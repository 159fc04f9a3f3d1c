"""The numbers of a code: how long its walks can go without a look."""

from stoppoints.checks import check_turns
from stoppoints.codes import Call, Either, Leave, Look, Loop, Row, Stand, Work, pieces_of
from stoppoints.errors import InvalidNumber, UnknownName
from stoppoints.spans import Span, greatest

WAYS = ("on", "leave", "return")
NO_WAY = (None, None, None)


class Numbers:
    """Eight spans or Nones: through and tail by the ways out of a code, the head and the inner one."""

    def __init__(self, *, through, tail, head, inner):
        check_ways(through)
        check_ways(tail)
        if not isinstance(head, Span):
            raise InvalidNumber(head)
        if inner is not None and not isinstance(inner, Span):
            raise InvalidNumber(inner)
        if not is_at_most(greatest(through), head):
            raise InvalidNumber(head)
        if not is_at_most(greatest(tail), inner):
            raise InvalidNumber(inner)
        self._through = through
        self._tail = tail
        self._head = head
        self._inner = inner

    @staticmethod
    def of_nothing():
        """Those of an empty row."""
        return Numbers.of_work(0)

    @staticmethod
    def of_work(time):
        """Those of a work."""
        return Numbers(through=(Span(time), None, None), tail=NO_WAY, head=Span(time), inner=None)

    @staticmethod
    def of_look(cost):
        """Those of a look of this cost."""
        return Numbers(through=NO_WAY, tail=(Span(0), None, None), head=Span(cost), inner=Span(0))

    @staticmethod
    def of_stand():
        """Those of a stand."""
        return Numbers.of_look(0)

    @staticmethod
    def of_leave():
        """Those of a leave."""
        return Numbers(through=(None, Span(0), None), tail=NO_WAY, head=Span(0), inner=None)

    @staticmethod
    def of_return():
        """Those of a return."""
        return Numbers(through=(None, None, Span(0)), tail=NO_WAY, head=Span(0), inner=None)

    def through(self, way):
        """The greatest time of the walks without a look, out by this way."""
        return self._through[index_of(way)]

    def tail(self, way):
        """The greatest time from the last look to the way out."""
        return self._tail[index_of(way)]

    @property
    def head(self):
        """The greatest first stretch."""
        return self._head

    @property
    def inner(self):
        """The greatest stretch that begins at a look, or None."""
        return self._inner

    @property
    def span(self):
        """The greatest stretch."""
        return greatest([self._head, self._inner])

    def __add__(self, other):
        if not isinstance(other, Numbers):
            return NotImplemented
        return in_row(self, other)

    def __or__(self, other):
        if not isinstance(other, Numbers):
            return NotImplemented
        best = [greatest([mine, theirs]) for mine, theirs in zip(all_eight(self), all_eight(other))]
        return of_eight(best)

    def turned(self, low, high):
        """The numbers of a loop of a code with these."""
        check_turns(low, high)
        if high == 0:
            return Numbers.of_nothing()
        return in_turns(self, low, high)

    def called(self):
        """The numbers of a call of a function whose code has these."""
        through = (greatest([self._through[0], self._through[2]]), None, None)
        tail = (greatest([self._tail[0], self._tail[2]]), None, None)
        return Numbers(through=through, tail=tail, head=self._head, inner=self._inner)

    def __le__(self, other):
        if not isinstance(other, Numbers):
            return NotImplemented
        return all([is_at_most(mine, theirs) for mine, theirs in zip(all_eight(self), all_eight(other))])

    def __eq__(self, other):
        return isinstance(other, Numbers) and all_eight(self) == all_eight(other)


def check_ways(spans):
    """Refuses what is no tuple of a span or None for each way."""
    if not isinstance(spans, tuple) or len(spans) != len(WAYS):
        raise InvalidNumber(spans)
    if not all([span is None or isinstance(span, Span) for span in spans]):
        raise InvalidNumber(spans)


def index_of(way):
    """The index of a way out."""
    if not isinstance(way, str) or way not in WAYS:
        raise UnknownName(way)
    return WAYS.index(way)


def is_at_most(one, other):
    """Whether a span or None is at most another one, None being below all."""
    return one is None or (other is not None and one <= other)


def all_eight(numbers):
    """The three of through, the three of tail, head and inner."""
    through = [numbers.through(way) for way in WAYS]
    tail = [numbers.tail(way) for way in WAYS]
    return through + tail + [numbers.head, numbers.inner]


def of_eight(spans):
    """The numbers of which these are all eight."""
    return Numbers(through=tuple(spans[:3]), tail=tuple(spans[3:6]), head=spans[6], inner=spans[7])


def added(one, other):
    """The sum of two spans, None if there is not both."""
    if one is None or other is None:
        return None
    return one + other


def in_row(one, other):
    """The numbers of a row of two codes."""
    on = one.through("on")
    tail_on = one.tail("on")
    if on is None and tail_on is None:
        # No walk comes to the other one.
        return one
    through = [added(on, other.through("on"))]
    tail = [greatest([added(tail_on, other.through("on")), other.tail("on")])]
    for way in WAYS[1:]:
        through.append(greatest([one.through(way), added(on, other.through(way))]))
        tail.append(greatest([one.tail(way), added(tail_on, other.through(way)), other.tail(way)]))
    head = greatest([one.head, added(on, other.head)])
    inner = greatest([one.inner, added(tail_on, other.head), other.inner])
    return Numbers(through=tuple(through), tail=tuple(tail), head=head, inner=inner)


def in_turns(code, low, high):
    """The numbers of a loop with at least one turn at most, of a code with these numbers."""
    on = code.through("on")
    before = turns_on(on, high, 1)
    behind = between_turns(code, high)
    all_turns = turns_on(on, high, 0) if on is not None or low == 0 else None
    through_on = greatest([all_turns, added(before, code.through("leave"))])
    through_return = added(before, code.through("return"))
    tail_on = greatest([
        added(code.tail("on"), before),
        added(behind, code.through("leave")),
        code.tail("leave"),
    ])
    tail_return = greatest([added(behind, code.through("return")), code.tail("return")])
    return Numbers(
        through=(through_on, None, through_return),
        tail=(tail_on, None, tail_return),
        head=added(before, code.head),
        inner=greatest([code.inner, added(behind, code.head)]),
    )


def turns_on(on, high, less):
    """The greatest time of turns that go on without a look, all that are possible but for so many.

    If none can go on so, this is the time of no turns.
    """
    if on is None:
        return Span(0)
    if high is not None:
        return on * (high - less)
    return on if on == Span(0) else Span.endless()


def between_turns(code, high):
    """The greatest time from the last look in one turn to the beginning of a later one, or None."""
    if high == 1 or code.tail("on") is None:
        return None
    return code.tail("on") + turns_on(code.through("on"), high, 2)


def numbers_by(code, told):
    """The numbers of a code in which the calls have the numbers that are told by names."""
    for piece in pieces_of(code):
        if isinstance(piece, Call) and piece.name not in told:
            raise UnknownName(piece.name)
    return numbers_within(code, told)


def numbers_within(code, told):
    """The numbers of a code whose calls are all told."""
    if isinstance(code, Work):
        return Numbers.of_work(code.time)
    if isinstance(code, Look):
        return Numbers.of_look(code.cost)
    if isinstance(code, Stand):
        return Numbers.of_stand()
    if isinstance(code, Loop):
        return numbers_within(code.code, told).turned(code.low, code.high)
    if isinstance(code, Call):
        return told[code.name]
    if isinstance(code, (Row, Either)):
        return numbers_of_parts(code, told)
    return Numbers.of_leave() if isinstance(code, Leave) else Numbers.of_return()


def numbers_of_parts(code, told):
    """The numbers of a row or a choice, from those of its parts."""
    each = [numbers_within(part, told) for part in code.parts()]
    numbers = each[0] if each else Numbers.of_nothing()
    for more in each[1:]:
        numbers = numbers + more if isinstance(code, Row) else numbers | more
    return numbers
