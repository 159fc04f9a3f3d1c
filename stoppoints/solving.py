"""The numbers of calls, however deep they go, and what follows from them for a program."""

from stoppoints.codes import loops_of
from stoppoints.measures import ENDLESS, best, in_call, measured, of_begin
from stoppoints.numbers import check_calls, numbers_from, span_from
from stoppoints.programs import call_table, called_from, calls_of, reached

# A walk comes to the time of a goal through calls within calls, in stages. For "on", all of them are taken on; for
# "head", some are taken for their heads, and then some on; for "tail on", some for their tails, and then some on,
# with Looks or without. If a walk comes to the same function twice in one stage, what it does between both can be
# left out, or done again and again: if it takes time, there is no end. So as many calls within another as a ring has
# functions tell all times of one stage that have an end. An inner stretch is a tail and a head, or a Look's cost.
STAGES = {"on": 1, "head": 2, "tail on": 2}


def numbers_of(program, code):
    """The numbers of a code in which the calls are those of functions of the program."""
    check_calls(code, program)
    return numbers_from(measured(code, solved(program, calls_of(code))))


def called_numbers(program):
    """The numbers of the calls of all functions, by names."""
    told = solved(program, program.names())
    return {name: numbers_from(told[name]) for name in program.names()}


def span_of(program):
    """The greatest stretch of the walks of a program."""
    measures = solved(program, [program.first])[program.first]
    return span_from(best([measures["head"], measures["inner"]]))


def endless_loops(program):
    """The names and indexes of the loops that can be gone through without end and without a Look."""
    told = solved(program, [program.first])
    found = []
    for name in reached(program):
        for index, loop in enumerate(loops_of(program[name])):
            if loop.high is None and measured(loop.code, told)["on"] not in (None, 0):
                found.append((name, index))
    return found


def solved(program, names):
    """The measures of the calls of these functions, and of all that they come to, by names."""
    told = {}
    table = call_table(program)
    for group in groups_of(table, names):
        if len(group) == 1 and group[0] not in table[group[0]]:
            told[group[0]] = in_call(measured(program[group[0]], told))
        else:
            solve_ring(program, group, told)
    return told


def solve_ring(program, ring, told):
    """Adds the measures of calls of functions in a ring, when those that they call beside them are told."""
    for name in ring:
        told[name] = of_begin()
    sweeps = 0
    grown = True
    while grown:
        grown = False
        # Each sweep allows at least one more call within another.
        ended = [goal for goal in STAGES if sweeps >= STAGES[goal] * len(ring)]
        for name in ring:
            found = without_end(told[name], in_call(measured(program[name], told)), ended)
            grown = grown or found != told[name]
            told[name] = found
        sweeps += 1


def without_end(known, found, ended):
    """The measures that were found, ENDLESS for goals that have grown though all their times that end are known."""
    return {goal: ENDLESS if goal in ended and time != known[goal] else time for goal, time in found.items()}


def groups_of(table, names):
    """Lists of these functions and all that they come to, those in a ring together, each list behind what it calls."""
    order = called_first(table, names)
    ahead = {name: called_from(table, name) for name in order}
    groups = []
    for name in order:
        ring = [other for other in order if other in ahead[name] and name in ahead[other]]
        # A ring is found from each of its names. The last one of the order is behind all that the ring calls.
        if not ring or ring[-1] == name:
            groups.append(ring if ring else [name])
    return groups


def called_first(table, names):
    """These functions and all that they come to, as far as possible behind those that they call."""
    order = []
    seen = {}
    for name in names:
        add_called(table, name, seen, order)
    return order


def add_called(table, name, seen, order):
    """Adds a function to the order, behind those that it calls, unless it was seen already."""
    if name not in seen:
        seen[name] = True
        for called in table[name]:
            add_called(table, called, seen, order)
        order.append(name)
