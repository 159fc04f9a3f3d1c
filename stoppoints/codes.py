"""Codes: works, looks, choices, loops and calls.

Each of the nine classes has all methods of the interface in its own body, as the interface lists them for it.
What they have in common is done by the functions at the end of this file.
"""

from stoppoints.checks import check_name, check_turns, is_time
from stoppoints.errors import InvalidCode, InvalidTime

MOST_CODES = 200
MOST_DEPTH = 25


class Code:
    """What all nine kinds of codes have in common."""


class Work(Code):
    """A time that passes."""

    def __init__(self, time):
        if not is_time(time):
            raise InvalidTime(time)
        self.time = time

    def parts(self):
        """The codes in it directly."""
        return []

    def depth(self):
        """1, and the greatest depth of a code in it."""
        return 1

    def __len__(self):
        return 1

    def __contains__(self, name):
        return has_look(self, name)

    def __add__(self, other):
        return joined(self, other)

    def __or__(self, other):
        return parted(self, other)

    def __mul__(self, other):
        return Loop(other, other, self)

    def __eq__(self, other):
        return isinstance(other, Work) and self.time == other.time


class Look(Code):
    """A look whether to stop, which takes its cost."""

    def __init__(self, name, cost=0):
        check_name(name)
        if not is_time(cost):
            raise InvalidTime(cost)
        self.name = name
        self.cost = cost

    def parts(self):
        """The codes in it directly."""
        return []

    def depth(self):
        """1, and the greatest depth of a code in it."""
        return 1

    def __len__(self):
        return 1

    def __contains__(self, name):
        return has_look(self, name)

    def __add__(self, other):
        return joined(self, other)

    def __or__(self, other):
        return parted(self, other)

    def __mul__(self, other):
        return Loop(other, other, self)

    def __eq__(self, other):
        return isinstance(other, Look) and self.name == other.name and self.cost == other.cost


class Stand(Code):
    """A wait for something else, in which a hand counts as stopped."""

    def parts(self):
        """The codes in it directly."""
        return []

    def depth(self):
        """1, and the greatest depth of a code in it."""
        return 1

    def __len__(self):
        return 1

    def __contains__(self, name):
        return has_look(self, name)

    def __add__(self, other):
        return joined(self, other)

    def __or__(self, other):
        return parted(self, other)

    def __mul__(self, other):
        return Loop(other, other, self)

    def __eq__(self, other):
        return isinstance(other, Stand)


class Row(Code):
    """Codes one behind another; there may be none."""

    def __init__(self, *codes):
        check_codes(codes)
        self._parts = codes
        self._size = size_with(codes)
        self._depth = depth_with(codes)

    def parts(self):
        """The codes in it directly."""
        return list(self._parts)

    def depth(self):
        """1, and the greatest depth of a code in it."""
        return self._depth

    def __len__(self):
        return len(range(self._size))

    def __contains__(self, name):
        return has_look(self, name)

    def __add__(self, other):
        return joined(self, other)

    def __or__(self, other):
        return parted(self, other)

    def __mul__(self, other):
        return Loop(other, other, self)

    def __eq__(self, other):
        return isinstance(other, Row) and self._parts == other._parts


class Either(Code):
    """One of two or more codes."""

    def __init__(self, *codes):
        check_codes(codes)
        if len(codes) < 2:
            raise InvalidCode(None)
        self._parts = codes
        self._size = size_with(codes)
        self._depth = depth_with(codes)

    def parts(self):
        """The codes in it directly."""
        return list(self._parts)

    def depth(self):
        """1, and the greatest depth of a code in it."""
        return self._depth

    def __len__(self):
        return len(range(self._size))

    def __contains__(self, name):
        return has_look(self, name)

    def __add__(self, other):
        return joined(self, other)

    def __or__(self, other):
        return parted(self, other)

    def __mul__(self, other):
        return Loop(other, other, self)

    def __eq__(self, other):
        return isinstance(other, Either) and self._parts == other._parts


class Loop(Code):
    """A code so many times as is chosen, from low to high, or from low on if high is None."""

    def __init__(self, low, high, code):
        check_turns(low, high)
        check_codes([code])
        self.low = low
        self.high = high
        self.code = code
        self._size = size_with([code])
        self._depth = depth_with([code])

    def parts(self):
        """The codes in it directly."""
        return [self.code]

    def depth(self):
        """1, and the greatest depth of a code in it."""
        return self._depth

    def __len__(self):
        return len(range(self._size))

    def __contains__(self, name):
        return has_look(self, name)

    def __add__(self, other):
        return joined(self, other)

    def __or__(self, other):
        return parted(self, other)

    def __mul__(self, other):
        return Loop(other, other, self)

    def __eq__(self, other):
        return isinstance(other, Loop) and self.low == other.low and self.high == other.high and self.code == other.code


class Call(Code):
    """The code of a function, by its name."""

    def __init__(self, name):
        check_name(name)
        self.name = name

    def parts(self):
        """The codes in it directly."""
        return []

    def depth(self):
        """1, and the greatest depth of a code in it."""
        return 1

    def __len__(self):
        return 1

    def __contains__(self, name):
        return has_look(self, name)

    def __add__(self, other):
        return joined(self, other)

    def __or__(self, other):
        return parted(self, other)

    def __mul__(self, other):
        return Loop(other, other, self)

    def __eq__(self, other):
        return isinstance(other, Call) and self.name == other.name


class Leave(Code):
    """The end of the innermost loop around it."""

    def parts(self):
        """The codes in it directly."""
        return []

    def depth(self):
        """1, and the greatest depth of a code in it."""
        return 1

    def __len__(self):
        return 1

    def __contains__(self, name):
        return has_look(self, name)

    def __add__(self, other):
        return joined(self, other)

    def __or__(self, other):
        return parted(self, other)

    def __mul__(self, other):
        return Loop(other, other, self)

    def __eq__(self, other):
        return isinstance(other, Leave)


class Return(Code):
    """The end of the function."""

    def parts(self):
        """The codes in it directly."""
        return []

    def depth(self):
        """1, and the greatest depth of a code in it."""
        return 1

    def __len__(self):
        return 1

    def __contains__(self, name):
        return has_look(self, name)

    def __add__(self, other):
        return joined(self, other)

    def __or__(self, other):
        return parted(self, other)

    def __mul__(self, other):
        return Loop(other, other, self)

    def __eq__(self, other):
        return isinstance(other, Return)


def is_code(value):
    """Whether a value is one of the nine kinds of codes."""
    return isinstance(value, (Work, Look, Stand, Row, Either, Loop, Call, Leave, Return))


def pieces_of(code):
    """All codes that a code is made of, as they begin in its text, itself first."""
    yield code
    for part in code.parts():
        yield from pieces_of(part)


def loops_of(code):
    """The loops in the code, as they begin in its text."""
    return [piece for piece in pieces_of(code) if isinstance(piece, Loop)]


def has_look(code, name):
    """Whether a look of this name is in the code."""
    looks = [piece.name for piece in pieces_of(code) if isinstance(piece, Look)]
    return isinstance(name, str) and name in looks


def joined(one, other):
    """The row of two codes, whose parts are taken if they are rows themselves."""
    ahead = one.parts() if isinstance(one, Row) else [one]
    behind = other.parts() if isinstance(other, Row) else [other]
    codes = ahead + behind
    return Row(*codes)


def parted(one, other):
    """The choice between two codes, whose parts are taken if they are choices themselves."""
    first = one.parts() if isinstance(one, Either) else [one]
    second = other.parts() if isinstance(other, Either) else [other]
    codes = first + second
    return Either(*codes)


def check_codes(codes):
    """Refuses the first value that is no code."""
    for code in codes:
        if not is_code(code):
            raise InvalidCode(code)


def size_with(parts):
    """The size of a code of these parts, if it is not too great."""
    size = 1 + sum([len(part) for part in parts])
    if size > MOST_CODES:
        raise InvalidCode(None)
    return size


def depth_with(parts):
    """The depth of a code of these parts, if it is not too great."""
    depth = 1 + max([int(part.depth()) for part in parts], default=0)
    if depth > MOST_DEPTH:
        raise InvalidCode(None)
    return depth
