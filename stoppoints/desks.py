"""Desks: programs by name, with limits of their spans that hold at all times."""

from stoppoints.checks import ABOVE_LIMITS, check_known, check_name
from stoppoints.errors import InvalidLimit, InvalidProgram, OverLimit
from stoppoints.histories import History, Trial
from stoppoints.programs import Program
from stoppoints.rules import Rule, check_rule, ruled
from stoppoints.solving import span_of
from stoppoints.spans import Span


class Desk:
    """Programs and their limits by names, in the order in which they were first set, and a rule for all of them."""

    def __init__(self):
        self._history = History(State({}, {}, Rule.nowhere()))

    def __getitem__(self, name):
        check_known(name, self)
        return self._history.state.programs[name]

    def __setitem__(self, name, program):
        self.put(name, program)

    def __iter__(self):
        raise TypeError("a desk is not iterated over: take its names()")

    def __contains__(self, name):
        return isinstance(name, str) and name in self._history.state.programs

    def __len__(self):
        return len(self._history.state.programs)

    def put(self, name, program):
        """Sets a program."""
        check_name(name)
        if not isinstance(program, Program):
            raise InvalidProgram(program)
        self._change(self._history.state.with_program(name, program), [name], ("put", name, program))

    def names(self):
        """The names of the programs, in order."""
        return list(self._history.state.programs)

    def remove(self, name):
        """Removes a program and its limit."""
        check_known(name, self)
        self._change(self._history.state.without(name), [], ("remove", name))

    def limit_of(self, name):
        """The limit of a name, or None."""
        check_known(name, self)
        return self._history.state.limits[name]

    def set_limit(self, name, limit):
        """Sets the limit of a name, or with None that it has none."""
        check_known(name, self)
        if limit is not None and not is_limit(limit):
            raise InvalidLimit(limit)
        self._change(self._history.state.with_limit(name, limit), [name], ("limit", name, limit))

    def span_for(self, name):
        """The span of a program under the rule."""
        check_known(name, self)
        return self._history.state.span_under_rule(name)

    def sheet(self, name):
        """A view of one name."""
        check_known(name, self)
        return Sheet(self, name)

    @property
    def rule(self):
        """The rule for all programs."""
        return self._history.state.common

    @rule.setter
    def rule(self, value):
        self.set_rule(value)

    def set_rule(self, rule):
        """Sets the rule for all programs."""
        check_rule(rule)
        self._change(self._history.state.with_rule(rule), self.names(), ("rule", rule))

    def undo(self):
        """Takes back the last change."""
        self._history.undo()

    def redo(self):
        """Does again the last change that was taken back."""
        self._history.redo()

    @property
    def undoable(self):
        """The number of changes that can be taken back."""
        return len(self._history.block.ahead)

    def trial(self):
        """A context manager for one block, which counts as one change, or is undone if it is left by an error."""
        return Trial(self._history, self)

    def trying(self, call):
        """What a call returns in such a block."""
        with self.trial():
            return call()

    def accepted(self):
        """All deeds that were accepted, in order: tuples of a word and what it is about."""
        return self._history.accepted()

    def _change(self, state, names, deed):
        """Goes on with another state, in which these names may have come above their limits."""
        for name in names:
            state.check_limit(name)
        self._history.change(state, deed)


class State:
    """What a desk has at one moment. It never changes."""

    def __init__(self, programs, limits, common):
        self.programs = programs
        self.limits = limits
        # The rule that is common to all programs.
        self.common = common

    def with_program(self, name, program):
        """The same with a program, the limit of which is kept."""
        programs = dict(self.programs)
        programs[name] = program
        limits = dict(self.limits)
        limits.setdefault(name, None)
        return State(programs, limits, self.common)

    def without(self, name):
        """The same without a name."""
        programs = {other: self.programs[other] for other in self.programs if other != name}
        limits = {other: self.limits[other] for other in self.limits if other != name}
        return State(programs, limits, self.common)

    def with_limit(self, name, limit):
        """The same with a limit."""
        limits = dict(self.limits)
        limits[name] = limit
        return State(self.programs, limits, self.common)

    def with_rule(self, rule):
        """The same with another rule."""
        return State(self.programs, self.limits, rule)

    def span_under_rule(self, name):
        """The span of a program under the rule."""
        return span_of(ruled(self.programs[name], self.common))

    def check_limit(self, name):
        """Refuses a span above the limit of its name."""
        limit = self.limits[name]
        if limit is not None:
            needed = self.span_under_rule(name)
            if needed > limit:
                raise OverLimit(name, needed)


class Sheet:
    """A view of one name of a desk, as long as the desk has it."""

    def __init__(self, desk, name):
        self._desk = desk
        self._name = name

    @property
    def program(self):
        """The program of the name."""
        return self._desk[self._name]

    @program.setter
    def program(self, value):
        self.set_program(value)

    @property
    def limit(self):
        """The limit of the name, or None."""
        return self._desk.limit_of(self._name)

    @limit.setter
    def limit(self, value):
        self.set_limit(value)

    def set_program(self, program):
        """Sets the program of the name."""
        check_known(self._name, self._desk)
        self._desk.put(self._name, program)

    def set_limit(self, limit):
        """Sets the limit of the name, or with None that it has none."""
        self._desk.set_limit(self._name, limit)


def is_limit(value):
    """Whether a value is a span that a limit can be."""
    return isinstance(value, Span) and (value.is_endless() or value.time < ABOVE_LIMITS)
