"""Programs: functions by names, one of which is the first."""

from stoppoints.checks import check_name, is_name
from stoppoints.codes import Call, Leave, Loop, check_codes, is_code, pieces_of
from stoppoints.errors import InvalidFunctions, UnknownName
from stoppoints.walks import Walk

MOST_FUNCTIONS = 12


class Program:
    """1 to 12 functions by names, and the name of the first one. It never changes."""

    def __init__(self, first, functions):
        check_functions(functions)
        if not isinstance(first, str) or first not in functions:
            raise UnknownName(first)
        self._first = first
        self._functions = dict(functions)

    @property
    def first(self):
        """The name of the first function."""
        return self._first

    def __getitem__(self, name):
        if name not in self:
            raise UnknownName(name)
        return self._functions[name]

    def __iter__(self):
        raise TypeError("a program is not iterated over: take its names()")

    def names(self):
        """The names of the functions, in order."""
        return sorted(self._functions, key=str)

    def __contains__(self, name):
        return isinstance(name, str) and name in self._functions

    def __len__(self):
        return len(self._functions)

    def __eq__(self, other):
        return isinstance(other, Program) and self._first == other._first and self._functions == other._functions

    def with_function(self, name, code):
        """A program in which the function of this name has this code."""
        check_name(name)
        check_codes([code])
        functions = dict(self._functions)
        functions[name] = code
        return Program(self._first, functions)

    def with_first(self, name):
        """The same functions, with another first one."""
        return Program(name, self._functions)

    def __call__(self, choices):
        return Walk(self, choices)


def check_functions(functions):
    """Refuses what cannot be the functions of a program."""
    if not isinstance(functions, dict) or not 1 <= len(functions) <= MOST_FUNCTIONS:
        raise InvalidFunctions(None)
    for name in functions:
        if not is_name(name) or not is_code(functions[name]):
            raise InvalidFunctions(None)
    for name in sorted(functions, key=str):
        unknown = [called for called in calls_of(functions[name]) if called not in functions]
        if unknown or can_leave(functions[name]):
            raise InvalidFunctions(name)


def can_leave(code):
    """Whether a Leave in the code is in no loop of it."""
    if isinstance(code, Loop):
        return False
    return isinstance(code, Leave) or any([can_leave(part) for part in code.parts()])


def calls_of(code):
    """The names of the functions that are called in the code, each once, by the alphabet."""
    names = [piece.name for piece in pieces_of(code) if isinstance(piece, Call)]
    return sorted(set(names))


def call_table(program):
    """A dict of the names that each function calls."""
    return {name: calls_of(program[name]) for name in program.names()}


def reached(program):
    """The names that the first function can come to by calls, and its own, in order."""
    names = called_from(call_table(program), program.first)
    names[program.first] = True
    return sorted(names, key=str)


def called_from(table, name):
    """A dict of the names of all functions that calls lead to from this one, by the table of all calls."""
    found = {}
    todo = [name]
    while todo:
        for called in table[todo.pop()]:
            if called not in found:
                found[called] = True
                todo.append(called)
    return found


def rings(program):
    """The lists of the names that call one another in a ring, by their first names."""
    table = call_table(program)
    ahead = {name: called_from(table, name) for name in table}
    found = []
    for name in program.names():
        ring = [other for other in program.names() if other in ahead[name] and name in ahead[other]]
        # A ring is found from each of its names: it is taken from the first one.
        if ring and ring[0] == name:
            found.append(ring)
    return found
