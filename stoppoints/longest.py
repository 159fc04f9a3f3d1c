"""Trails of walks with long stretches."""

from stoppoints.checks import is_between
from stoppoints.errors import InvalidNumber
from stoppoints.measures import ENDLESS, IN_CALL, call_times, in_call, measured, of_begin
from stoppoints.plans import Planner, calls_in, finished, first_best
from stoppoints.programs import call_table
from stoppoints.solving import called_first, span_of
from stoppoints.spans import Span
from stoppoints.trails import Trail

MOST_OVER = 50


def longest_trail(program):
    """A trail with a stretch that is the span of the program, None if that is endless."""
    span = span_of(program)
    return None if span.is_endless() else trail_with(program, span.time)


def over(program, time):
    """A trail with a stretch above the time, None if there is none."""
    if not is_between(time, 0, MOST_OVER):
        raise InvalidNumber(time)
    return trail_with(program, time + 1) if span_of(program) > Span(time) else None


def trail_with(program, time):
    """A trail with a stretch of this time at least, which some walk of the program has."""
    search = Search(program, time)
    search.go_on()
    return Trail(program, search.found_entries())


class Search:
    """Looks for longer and longer walks through functions, each made of those that were found before it.

    Of times above the one that is looked for it keeps just this one.
    """

    def __init__(self, program, time):
        self._program = program
        self._time = time
        self._told = {name: of_begin() for name in program.names()}
        # For each function and goal, the key of the walk: the index of the find, and the goal. None stands for
        # no walk, or for the one that has only come to the call.
        self._keys = {name: {goal: None for goal in IN_CALL} for name in program.names()}
        # For each find its function, and what was told and which keys there were ahead of it.
        self._finds = []

    def go_on(self):
        """Goes on until the first function has a stretch of the time."""
        names = called_first(call_table(self._program), [self._program.first])
        while self._goal() is None:
            for name in names:
                self._look_again(name)

    def _goal(self):
        told = self._told[self._program.first]
        for goal in ("head", "inner"):
            if told[goal] is not None and told[goal] >= self._time:
                return goal
        return None

    def _look_again(self, name):
        """Finds what walks through a function can do by all that is told now."""
        known = self._told[name]
        found = in_call(measured(self._program[name], self._told))
        found = {goal: self._clipped(time) for goal, time in found.items()}
        if found != known:
            index = len(self._finds)
            self._finds.append((name, dict(self._told), dict(self._keys)))
            self._told[name] = found
            keys = self._keys[name]
            self._keys[name] = {goal: keys[goal] if found[goal] == known[goal] else (index, goal) for goal in keys}

    def _clipped(self, time):
        if time is None:
            return None
        return self._time if time == ENDLESS or time > self._time else time

    def found_entries(self):
        """The entries of the trail that was found."""
        first = self._program.first
        key = self._keys[first][self._goal()]
        if key is None:
            return ((first, "here"),)
        plans = self._plans(key)
        done = {}
        entries = []
        # Each walk is made of those of earlier finds.
        for index in range(key[0] + 1):
            name = self._finds[index][0]
            for goal in IN_CALL:
                if (index, goal) in plans:
                    tree, way = finished(self._program[name], plans[(index, goal)], done)
                    done[(index, goal)] = (len(entries), way)
                    entries.append((name, tree))
        return tuple(entries)

    def _plans(self, key):
        """The plans of a walk and of all those that it is made of, by their keys."""
        plans = {}
        todo = [key]
        while todo:
            key = todo.pop()
            if key not in plans:
                plans[key] = self._plan(key)
                todo.extend(calls_in(plans[key]))
        return plans

    def _plan(self, key):
        index, goal = key
        name, told, keys = self._finds[index]
        code = self._program[name]
        within = first_best(IN_CALL[goal], call_times(measured(code, told), goal))
        return Planner(told, keys, self._time).plan(code, within)
