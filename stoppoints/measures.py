"""What walks through a code can do: for each goal the greatest time, and the ways to reach it.

The measures of a code are a dict of times by goals: None where no walk reaches the goal, ENDLESS where the times have
no bound. The goals "on", "leave" and "return" are the ways out of the code, without a Look or Stand; "tail on" and so
on are the same with some, and the time from the last one; "head" is the first stretch, and "inner" one that begins at
a Look or Stand of the code. "pass" is the way on, with Looks or without, where no time counts.

The numbers of point 9 are the first eight of these. The trails that show them take the ways that are told here.
"""

from stoppoints.codes import Call, Leave, Look, Loop, Row, Stand, Work

ENDLESS = -1

# The ways to reach a goal in a row of two codes: the goal in the first one, and the one in the second one, or None
# if the walk does not come to it. A way's time is the sum of both.
IN_ROW = {
    "on": (("on", "on"),),
    "leave": (("leave", None), ("on", "leave")),
    "return": (("return", None), ("on", "return")),
    "tail on": (("tail on", "on"), ("pass", "tail on")),
    "tail leave": (("tail leave", None), ("tail on", "leave"), ("pass", "tail leave")),
    "tail return": (("tail return", None), ("tail on", "return"), ("pass", "tail return")),
    "head": (("head", None), ("on", "head")),
    "inner": (("inner", None), ("tail on", "head"), ("pass", "inner")),
    "pass": (("pass", "pass"),),
}

# The same in the turns of a loop: how often, in the words of turn_counts, and the goal in these turns.
IN_TURNS = {
    "on": ((("all", "on"),), (("before", "on"), ("once", "leave"))),
    "leave": (),
    "return": ((("before", "on"), ("once", "return")),),
    "tail on": (
        (("fill", "pass"), ("once", "tail on"), ("before", "on")),
        (("once", "tail leave"),),
        (("once", "tail on"), ("between", "on"), ("once", "leave")),
    ),
    "tail leave": (),
    "tail return": ((("once", "tail return"),), (("once", "tail on"), ("between", "on"), ("once", "return"))),
    "head": ((("before", "on"), ("once", "head")),),
    "inner": ((("once", "inner"),), (("once", "tail on"), ("between", "on"), ("once", "head"))),
}

# The goals in the code of a function by which a call of it reaches a goal.
IN_CALL = {
    "on": ("on", "return"),
    "tail on": ("tail on", "tail return"),
    "head": ("head",),
    "inner": ("inner",),
}


def of_begin():
    """The measures of what a walk has only come to: it ends there."""
    found = {goal: None for goal in IN_ROW}
    found["head"] = 0
    return found


def of_time(time):
    """The measures of a work."""
    found = {goal: None for goal in IN_ROW}
    found["on"] = time
    found["head"] = time
    found["pass"] = 0
    return found


def of_stop(cost):
    """The measures of a look of this cost, or of a stand."""
    found = {goal: None for goal in IN_ROW}
    found["tail on"] = 0
    found["head"] = cost
    found["inner"] = 0
    found["pass"] = 0
    return found


def of_way_out(way):
    """The measures of a leave or a return."""
    found = {goal: None for goal in IN_ROW}
    found[way] = 0
    found["head"] = 0
    return found


def measured(code, told):
    """The measures of a code in which the calls have the measures that are told by names."""
    if isinstance(code, Work):
        return of_time(code.time)
    if isinstance(code, Look):
        return of_stop(code.cost)
    if isinstance(code, Stand):
        return of_stop(0)
    if isinstance(code, Call):
        return told[code.name]
    if isinstance(code, Loop):
        return in_turns(measured(code.code, told), code.low, code.high)
    each = [measured(part, told) for part in code.parts()]
    if each:
        return beginnings(each)[-1] if isinstance(code, Row) else in_either(each)
    if isinstance(code, Row):
        return of_time(0)
    return of_way_out("leave" if isinstance(code, Leave) else "return")


def beginnings(each):
    """The measures of the first part of a row, of the first two, and so on to all, from those of each part."""
    found = [each[0]]
    for more in each[1:]:
        found.append(in_row(found[-1], more))
    return found


def in_row(one, other):
    """The measures of a row of two codes."""
    return {goal: best(row_times(one, other, goal)) for goal in IN_ROW}


def row_times(one, other, goal):
    """The times of the ways to a goal in a row of two codes."""
    return [one[left] if right is None else added(one[left], other[right]) for left, right in IN_ROW[goal]]


def in_either(each):
    """The measures of a choice between codes with these."""
    return {goal: best([measures[goal] for measures in each]) for goal in IN_ROW}


def in_turns(turn, low, high):
    """The measures of a loop of a code with these."""
    if high == 0:
        return of_time(0)
    counts = turn_counts(turn, low, high)
    found = {goal: best(turn_times(turn, counts, goal)) for goal in IN_TURNS}
    found["pass"] = None if found["on"] is None and found["tail on"] is None else 0
    return found


def turn_times(turn, counts, goal):
    """The times of the ways to a goal in the turns of a loop."""
    times = []
    for way in IN_TURNS[goal]:
        time = 0
        for count, within in way:
            time = added(time, repeated(turn[within], counts[count]))
        times.append(time)
    return times


def turn_counts(turn, low, high):
    """How many turns the words of IN_TURNS stand for: None is any number, below 0 there are not so many turns."""
    if turn["on"] is None:
        # No turn goes on without a Look: the turns that are needed for low are those of "fill".
        counts = {"all": low, "before": 0, "between": 0, "fill": max(0, low - 1)}
    elif high is None:
        counts = {"all": None, "before": None, "between": None, "fill": 0}
    else:
        counts = {"all": high, "before": high - 1, "between": high - 2, "fill": 0}
    if high == 1:
        counts["between"] = -1
    counts["once"] = 1
    return counts


def in_call(measures):
    """The measures of a call of a function whose code has these."""
    found = {goal: None for goal in IN_ROW}
    for goal in IN_CALL:
        found[goal] = best(call_times(measures, goal))
    found["pass"] = None if found["on"] is None and found["tail on"] is None else 0
    return found


def call_times(measures, goal):
    """The times of the ways to a goal in a call of a function whose code has these measures."""
    return [measures[within] for within in IN_CALL[goal]]


def added(one, other):
    """The sum of two times, None if there is not both."""
    if one is None or other is None:
        return None
    if one == ENDLESS or other == ENDLESS:
        return ENDLESS
    return one + other


def repeated(time, count):
    """A time so many times."""
    if count == 0:
        return 0
    if time is None or (count is not None and count < 0):
        return None
    if time == ENDLESS or (count is None and time > 0):
        return ENDLESS
    return 0 if count is None else time * count


def best(times):
    """The greatest of times and Nones, None if there is no time."""
    found = None
    for time in times:
        if time == ENDLESS:
            return ENDLESS
        if time is not None and (found is None or found < time):
            found = time
    return found
