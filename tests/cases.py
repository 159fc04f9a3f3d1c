"""What all tests use: a look at errors, and values of other kinds."""

import unittest

from stoppoints.codes import Call, Either, Leave, Look, Loop, Return, Row, Stand, Work

# Values that are no integers, names, codes or spans.
STRANGE = [None, True, False, "", "5", "A", b"a", [], [1], (), (1,), {}, {"a": 1}, object()]
# The same without None, which stands for something else at some places.
STRANGER = STRANGE[1:]

TOP = 10 ** 30


class Same:
    """A value that says of itself that it is equal to everything."""

    def __eq__(self, other):
        return True

    def __hash__(self):
        return 0


class Case(unittest.TestCase):
    def refuses(self, error, told, call, *args, **named):
        """That the call raises just this error, and that its attributes are as told."""
        with self.assertRaises(error) as caught:
            call(*args, **named)
        self.assertIs(type(caught.exception), error)
        for name, value in told.items():
            self.same(getattr(caught.exception, name), value)

    def same(self, one, other):
        """That two values are equal and of one kind: True is not 1."""
        self.assertIs(type(one), type(other))
        self.assertEqual(one, other)


def some_codes():
    """Codes of all kinds, of which no two are equal."""
    return [
        Work(0), Work(1), Work(TOP),
        Look("a"), Look("b"), Look("a", 1), Look("a", TOP), Look("abcdefgh"),
        Stand(), Leave(), Return(),
        Call("a"), Call("b"), Call("abcdefgh"),
        Row(), Row(Work(1)), Row(Row()), Row(Work(1), Work(2)), Row(Work(2), Work(1)),
        Row(Row(Work(1)), Work(2)), Row(Work(1), Row(Work(2))), Row(Work(1), Work(2), Work(2)),
        Either(Work(1), Work(2)), Either(Work(2), Work(1)), Either(Work(1), Work(2), Work(2)),
        Either(Either(Work(1), Work(2)), Work(2)), Either(Row(), Row()),
        Loop(0, 0, Work(1)), Loop(0, 1, Work(1)), Loop(1, 1, Work(1)), Loop(0, None, Work(1)),
        Loop(1, None, Work(1)), Loop(TOP, TOP, Work(1)), Loop(TOP, None, Work(1)), Loop(0, 1, Work(2)),
        Loop(0, TOP, Row(Work(1))), Loop(0, 1, Loop(0, 1, Work(1))),
        Row(Loop(2, 5, Either(Leave(), Call("f"), Look("x", 3))), Stand(), Return()),
    ]


def nested(depth):
    """A code of this depth."""
    code = Work(1)
    for _ in range(depth - 1):
        code = Row(code)
    return code


def of_size(size):
    """A row of this size."""
    return Row(*[Work(1)] * (size - 1))
