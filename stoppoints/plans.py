"""Plans: trees of walks that reach the goals of measures, by the ways that are told there.

A plan is a tree as those of trails. But a call is ("call", key) with the key of a walk that is told elsewhere, and
the "here" is left out that ends a row or a loop of which more could be gone through: `finished` adds it.
"""

from stoppoints.codes import Call, Either, Leave, Loop, Return, Row
from stoppoints.measures import IN_ROW, IN_TURNS, beginnings, best, measured, row_times, turn_counts, turn_times


class Planner:
    """Plans walks, when the measures of calls are told, and the keys of walks that reach them, by names and goals.

    Where measures are endless, a plan takes as many turns as are needed for a time that is enough. A head of 0, which
    needs no walk, is never asked for in the midst of a plan: there is always another way with the same time.
    """

    def __init__(self, told, keys, enough):
        self._told = told
        self._keys = keys
        self._enough = enough

    def plan(self, code, goal):
        """A plan of a walk that reaches the goal with the time of the measures of the code, or with enough."""
        if goal == "pass":
            goal = "tail on" if measured(code, self._told)["on"] is None else "on"
        if isinstance(code, Row):
            return "row", self._trees(code, goal)
        if isinstance(code, Either):
            return self._choice(code, goal)
        if isinstance(code, Loop):
            return "loop", self._turns(code, goal)
        if isinstance(code, Call):
            return "call", self._keys[code.name][goal]
        return "go"

    def _trees(self, row, goal):
        parts = row.parts()
        each = [measured(part, self._told) for part in parts]
        rows = beginnings(each) if each else []
        trees = []
        for k in range(len(parts) - 1, 0, -1):
            times = row_times(rows[k - 1], each[k], goal)
            goal, within = first_best(IN_ROW[goal], times)
            if within is not None:
                trees.append(self.plan(parts[k], within))
        if parts:
            trees.append(self.plan(parts[0], goal))
        return tuple(trees[::-1])

    def _choice(self, either, goal):
        parts = either.parts()
        times = [measured(part, self._told)[goal] for part in parts]
        index = times.index(best(times))
        return "either", index, self.plan(parts[index], goal)

    def _turns(self, loop, goal):
        if loop.high == 0:
            return ()
        turn = measured(loop.code, self._told)
        counts = turn_counts(turn, loop.low, loop.high)
        turns = []
        for word, within in first_best(IN_TURNS[goal], turn_times(turn, counts, goal)):
            times = counts[word]
            if times is None:
                times = loop.low if turn["on"] == 0 else max(int(loop.low), self._enough)
            if times > 0:
                turns.append((times, self.plan(loop.code, within)))
        return tuple(turns)


def first_best(ways, times):
    """The first of the ways with the greatest of the times."""
    return ways[times.index(best(times))]


def calls_in(plan):
    """The keys of the calls in a plan."""
    if not isinstance(plan, tuple):
        return []
    if plan[0] == "call":
        return [plan[1]]
    if plan[0] == "either":
        return calls_in(plan[2])
    trees = plan[1] if plan[0] == "row" else [tree for _, tree in plan[1]]
    return [key for tree in trees for key in calls_in(tree)]


def finished(code, plan, done):
    """The tree of a plan, and its way out of the code; `done` has the index and the way of the walks by keys."""
    if plan == "go":
        return plan, way_of(code)
    if isinstance(code, Row):
        return finished_row(code, plan, done)
    if isinstance(code, Either):
        tree, way = finished(code.parts()[plan[1]], plan[2], done)
        return ("either", plan[1], tree), way
    if isinstance(code, Loop):
        return finished_loop(code, plan, done)
    index, way = done[plan[1]]
    return ("call", index), "here" if way == "here" else "on"


def way_of(code):
    """The way out of a code without parts."""
    if isinstance(code, Leave):
        return "leave"
    return "return" if isinstance(code, Return) else "on"


def finished_row(row, plan, done):
    """The same for a plan of a row."""
    trees = []
    way = "on"
    for part, within in zip(row.parts(), plan[1]):
        tree, way = finished(part, within, done)
        trees.append(tree)
    if way == "on" and len(trees) < len(row.parts()):
        trees.append("here")
        way = "here"
    return ("row", tuple(trees)), way


def finished_loop(loop, plan, done):
    """The same for a plan of a loop."""
    turns = []
    way = "on"
    for times, within in plan[1]:
        tree, way = finished(loop.code, within, done)
        turns.append((times, tree))
    if way == "on" and sum([times for times, _ in turns]) < loop.low:
        turns.append((1, "here"))
        way = "here"
    return ("loop", tuple(turns)), "on" if way == "leave" else way
