"""Codes by chance, and what their walks are, found in the plainest way: by trying all of them."""

import random

from stoppoints.codes import Call, Either, Leave, Look, Loop, Return, Row, Stand, Work
from stoppoints.errors import LimitExceeded
from stoppoints.numbers import Numbers
from stoppoints.programs import Program
from stoppoints.spans import Span, greatest

WAYS = ("on", "leave", "return")
# So many turns of a loop without a high are taken for any number of them.
MANY = 10 ** 6


def random_code(rng, depth, *, names=(), loops=0, whole=True):
    """A code of at most this depth, with calls of these names, and Leaves in loops (anywhere if not whole)."""
    kinds = ["work", "work", "look", "stand", "return"]
    if names:
        kinds.append("call")
    if loops or not whole:
        kinds.append("leave")
    if depth > 1:
        kinds = kinds + ["row", "row", "row", "either", "either", "loop", "loop"]
    kind = rng.choice(kinds)
    if kind == "work":
        return Work(rng.choice([0, 1, 2, 5, 9]))
    if kind == "look":
        return Look(rng.choice("abc"), rng.choice([0, 0, 1, 4]))
    if kind == "call":
        return Call(rng.choice(list(names)))
    if kind == "loop":
        low, high = rng.choice([(0, 0), (0, 1), (1, 1), (0, 2), (2, 2), (1, 3), (0, None), (1, None), (2, None)])
        return Loop(low, high, random_code(rng, depth - 1, names=names, loops=loops + 1, whole=whole))
    if kind == "row":
        many = rng.choice([0, 1, 2, 2, 3])
        return Row(*[random_code(rng, depth - 1, names=names, loops=loops, whole=whole) for _ in range(many)])
    if kind == "either":
        many = rng.choice([2, 2, 3])
        return Either(*[random_code(rng, depth - 1, names=names, loops=loops, whole=whole) for _ in range(many)])
    return {"stand": Stand(), "return": Return(), "leave": Leave()}[kind]


class TooMany(Exception):
    """There are more walks than can be tried."""


def walks_of(code, told):
    """All walks through a code: pairs of a way out ("here" for none) and the tuple of the stretches.

    `told` has the walks of calls by names. In a loop without a high, up to 4 turns are tried, and MANY equal ones
    without a look in place of any of these.
    """
    if isinstance(code, Work):
        return {("here", (0,)), ("on", (code.time,))}
    if isinstance(code, Look):
        return {("here", (0,)), ("on", (code.cost, 0))}
    if isinstance(code, Stand):
        return {("here", (0,)), ("on", (0, 0))}
    if isinstance(code, Leave):
        return {("here", (0,)), ("leave", (0,))}
    if isinstance(code, Return):
        return {("here", (0,)), ("return", (0,))}
    if isinstance(code, Call):
        return told[code.name]
    if isinstance(code, Row):
        walks = {("on", (0,)), ("here", (0,))}
        for part in code.parts():
            walks = behind(walks, walks_of(part, told))
        return walks
    if isinstance(code, Either):
        walks = {("here", (0,))}
        for part in code.parts():
            walks = walks | walks_of(part, told)
        return walks
    return walks_of_loop(code, told)


def behind(walks, more):
    """The walks of a row of two codes."""
    found = {walk for walk in walks if walk[0] != "on"}
    for way, stretches in walks:
        if way == "on":
            for other, others in more:
                found.add((other, stretches[:-1] + (stretches[-1] + others[0],) + others[1:]))
    if len(found) > 3000:
        raise TooMany()
    return found


def walks_of_loop(loop, told):
    high = max(4, loop.low + 1) if loop.high is None else loop.high
    turn = walks_of(loop.code, told)
    if loop.high is None:
        turn = turn | {(way, (MANY * s[0],)) for way, s in turn if way == "on" and len(s) == 1}
    found = set()
    walks = {("on", (0,)), ("here", (0,))}
    for turns in range(high + 1):
        # The walks that do not go on after a turn are those of more turns, too: they are kept by behind().
        if turns >= loop.low:
            found = found | walks
        if turns < high:
            walks = behind(walks, turn)
    return {("on" if way == "leave" else way, stretches) for way, stretches in found}


def measured(walks):
    """The numbers of walks, as a list of eight times or Nones: through, tail, head, inner."""
    numbers = []
    for way in WAYS:
        numbers.append(best([s[0] for out, s in walks if out == way and len(s) == 1]))
    for way in WAYS:
        numbers.append(best([s[-1] for out, s in walks if out == way and len(s) > 1]))
    numbers.append(best([s[0] for _, s in walks]))
    numbers.append(best([max(s[1:]) for _, s in walks if len(s) > 1]))
    return numbers


def best(times):
    return max(times, default=None)


def eight(numbers):
    """The same list of Numbers, "endless" for endless ones."""
    spans = [numbers.through(way) for way in WAYS] + [numbers.tail(way) for way in WAYS]
    return [time_of(span) for span in spans + [numbers.head, numbers.inner]]


def time_of(span):
    if span is None:
        return None
    return "endless" if span.is_endless() else span.time


def expected(code, told):
    """The eight numbers of a code, by all of its walks."""
    return ["endless" if time is not None and time >= MANY else time for time in measured(walks_of(code, told))]


def numbers_from(eight_spans):
    """Numbers of eight times, Nones and "endless"."""
    spans = [span_of_time(time) for time in eight_spans]
    return Numbers(through=tuple(spans[:3]), tail=tuple(spans[3:6]), head=spans[6], inner=spans[7])


def span_of_time(time):
    if time is None:
        return None
    return Span.endless() if time == "endless" else Span(time)


def random_numbers(rng):
    """Numbers of anyone: any that are taken."""
    spans = [rng.choice([None, 0, 1, 3, 8, 20, "endless"]) for _ in range(8)]
    through = [span_of_time(time) for time in spans[:3]]
    tail = [span_of_time(time) for time in spans[3:6]]
    head = greatest(through + [span_of_time(spans[6]) or Span(0)])
    inner = greatest(tail + [span_of_time(spans[7])])
    return Numbers(through=tuple(through), tail=tuple(tail), head=head, inner=inner)


def random_program(rng):
    """The first function and the functions of a program, by chance."""
    names = rng.sample(["a", "b", "f", "go", "stop", "z"], rng.choice([1, 2, 3]))
    functions = {name: random_code(rng, rng.choice([2, 3, 4]), names=names) for name in names}
    return rng.choice(names), functions


def random_rings(rng):
    """A program in which many functions call one another, most of them with a way that ends."""
    names = ["a", "b", "c", "d", "e", "f"][:rng.choice([1, 2, 2, 3, 4, 6])]
    functions = {}
    for name in names:
        ways = [random_code(rng, 3, names=names) for _ in range(rng.choice([1, 2]))]
        if rng.random() < 0.8:
            ways.append(Row())
        pieces = [random_code(rng, 2, names=names), Call(rng.choice(names)), random_code(rng, 2, names=names)]
        functions[name] = Either(*ways, Row(*rng.sample(pieces, rng.choice([2, 3]))))
    return Program(rng.choice(names), functions)


def walk_by_chance(rng, program, many):
    """A walk with at most so many choices, None if it becomes too long."""
    choices = choices_by_chance(rng, program, many)
    return None if choices is None else program(choices)


def choices_by_chance(rng, program, many):
    """The choices of such a walk, or None."""
    choices = []
    try:
        walk = program(choices)
        while not walk.done and len(choices) < many:
            low, high = (0, walk.waits[1] - 1) if walk.waits[0] == "either" else walk.waits[1:]
            choices.append(rng.randint(low, low + 3 if high is None else high))
            walk = program(choices)
    except LimitExceeded:
        return None
    return choices


def walks_of_function(code, told):
    """The walks of a call of a function with this code."""
    return {("on" if way == "return" else way, stretches) for way, stretches in walks_of(code, told)}


class LeaveLoop(Exception):
    pass


class ReturnFromFunction(Exception):
    pass


class Waits(Exception):
    pass


class Wrong(Exception):
    pass


class Simulation:
    """A walk by choices, with Python's own calls and errors for those of the program."""

    def __init__(self, program, choices, limit=5000):
        self.program, self.choices, self.limit = program, choices, limit
        self.used, self.steps, self.times, self.stops = 0, [], [], []
        self.waits, self.wrong = None, None
        try:
            self.function(program.first)
            if self.used < len(choices):
                raise Wrong(("choice", self.used))
        except Waits as stop:
            self.waits = stop.args[0]
        except Wrong as error:
            self.wrong = error.args[0]

    def function(self, name):
        try:
            self.go(self.program[name])
        except ReturnFromFunction:
            pass

    def step(self, step, time=0, stops=False):
        if len(self.steps) == self.limit:
            raise Wrong(("limit", self.limit))
        self.steps.append(step)
        self.times.append(time)
        self.stops.append(stops)

    def choice(self, waits, low, high):
        if self.used == len(self.choices):
            raise Waits(waits)
        choice = self.choices[self.used]
        if type(choice) is not int or choice < low or (high is not None and choice > high):
            raise Wrong(("choice", self.used))
        self.used += 1
        return choice

    def go(self, code):
        if isinstance(code, Work):
            self.step(("work", code.time), code.time)
        elif isinstance(code, Look):
            self.step(("look", code.name), code.cost, True)
        elif isinstance(code, Stand):
            self.step(("stand",), 0, True)
        elif isinstance(code, Row):
            for part in code.parts():
                self.go(part)
        elif isinstance(code, Either):
            parts = code.parts()
            self.go(parts[self.choice(("either", len(parts)), 0, len(parts) - 1)])
        elif isinstance(code, Loop):
            turns = self.choice(("turns", code.low, code.high), code.low, code.high)
            try:
                for k in range(1, turns + 1):
                    self.step(("turn", k))
                    self.go(code.code)
            except LeaveLoop:
                pass
        elif isinstance(code, Call):
            self.step(("call", code.name))
            self.function(code.name)
        elif isinstance(code, Leave):
            raise LeaveLoop()
        elif isinstance(code, Return):
            raise ReturnFromFunction()

    def stretches(self):
        found = [0]
        for time, stops in zip(self.times, self.stops):
            found[-1] += time
            if stops:
                found.append(0)
        return found

    def rest(self, k):
        time = 0
        for at in range(k, len(self.steps)):
            time += self.times[at]
            if self.stops[at]:
                break
        return time


def random_choices(rng, program, many):
    """At most so many choices, most of which can be taken."""
    choices = []
    for _ in range(rng.randrange(many + 1)):
        waits = Simulation(program, choices).waits
        if waits is None or rng.random() < 0.05:
            return choices + rng.choice([[], [], [], [], [], [0], [-1], [7], [True], [None, 0]])
        if waits[0] == "either":
            choices = choices + [rng.randrange(waits[1])]
        else:
            high = waits[1] + 3 if waits[2] is None else waits[2]
            choices = choices + [rng.randint(waits[1], high)]
    return choices


def generator(seed):
    return random.Random(seed)


def with_highs(code):
    """The code with a high in each loop."""
    if isinstance(code, Loop):
        return Loop(code.low, code.low + 2 if code.high is None else code.high, with_highs(code.code))
    if isinstance(code, (Row, Either)):
        return type(code)(*[with_highs(part) for part in code.parts()])
    return code


def random_tree_of_calls(rng):
    """A program without rings in which each loop has a high: functions call only those behind them."""
    names = ["a", "b", "f", "go"][:rng.choice([1, 2, 3, 3, 4])]
    rng.shuffle(names)
    functions = {}
    for k, name in enumerate(names):
        later = names[k + 1:]
        code = random_code(rng, rng.choice([2, 3, 4]), names=later)
        if later and rng.random() < 0.6:
            code = Row(*rng.sample([code, Call(rng.choice(later))], 2))
        functions[name] = with_highs(code)
    return Program(names[0] if rng.random() < 0.8 else rng.choice(names), functions)


def finished_walks(program, turns=0, most=3000):
    """All walks that come to the end, with at most so many turns of loops without a high (or low, if that is more)."""
    found, todo = [], [[]]
    while todo:
        choices = todo.pop()
        walk = program(choices)
        if walk.done:
            found.append(walk)
        elif walk.waits[0] == "either":
            todo += [choices + [k] for k in range(walk.waits[1])]
        else:
            low, high = walk.waits[1:]
            todo += [choices + [k] for k in range(low, (max(low, turns) if high is None else high) + 1)]
        if len(found) + len(todo) > most:
            raise TooMany()
    return found


def plain_steps(walk):
    """The steps of a walk but for those of calls and turns."""
    return tuple(step for step in walk.steps() if step[0] not in ("call", "turn"))
