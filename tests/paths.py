"""Trails step by step: what entries say, told without jumps, to compare with what the package says of them."""

from stoppoints.codes import Call, Either, Leave, Look, Loop, Return, Row, Stand, Work


class Bad(Exception):
    """An entry, or its tree, is none; the argument is as in InvalidTrail."""


class TooLong(Exception):
    """There are more steps than can be gone through one by one."""


# So many steps can be.
MOST = 5000


class Path:
    """Each step of a walk as (step, time, stops), its choices, and the way at its end."""

    def __init__(self):
        self.steps, self.choices, self.way = [], [], "on"

    def add(self, step, time=0, stops=False):
        self.steps.append((step, time, stops))

    def join(self, other):
        if len(self.steps) + len(other.steps) > MOST:
            raise TooLong()
        self.steps += other.steps
        self.choices += other.choices
        self.way = other.way

    def stretches(self):
        found = [0]
        for _, time, stops in self.steps:
            found[-1] += time
            if stops:
                found.append(0)
        return found

    def told(self):
        """All that a Trail tells of it."""
        stretches = self.stretches()
        return {"done": self.way in ("on", "return"), "many": len(stretches) - 1, "first": stretches[0],
                "last": stretches[-1], "greatest": max(stretches), "time": sum(stretches)}


def path_of(program, entries):
    """The Path that entries tell; Bad for wrong ones."""
    if type(entries) is not tuple or entries == ():
        raise Bad(None)
    paths = []
    for index, entry in enumerate(entries):
        try:
            name, tree = check(type(entry) is tuple and len(entry) == 2 and entry)
            check(type(name) is str and name in program.names())
            paths.append((name, follow(program[name], tree, paths)))
        except Bad:
            raise Bad(index)
    if entries[-1][0] != program.first:
        raise Bad(len(entries) - 1)
    return paths[-1][1]


def check(value):
    if not value:
        raise Bad()
    return value


def follow(code, tree, paths):
    path = Path()
    if type(tree) is str and tree == "here":
        path.way = "here"
        return path
    if type(code) in (Work, Look, Stand, Leave, Return):
        check(type(tree) is str and tree == "go")
    else:
        kinds = {Row: ("row", 2), Either: ("either", 3), Loop: ("loop", 2), Call: ("call", 2)}
        check(type(tree) is tuple and (tree[0] if tree else None, len(tree)) == kinds[type(code)])
    {Work: lambda: path.add(("work", code.time), code.time),
     Look: lambda: path.add(("look", code.name), code.cost, True),
     Stand: lambda: path.add(("stand",), 0, True),
     Leave: lambda: setattr(path, "way", "leave"),
     Return: lambda: setattr(path, "way", "return"),
     Row: lambda: follow_row(path, code.parts(), tree, paths),
     Either: lambda: follow_either(path, code.parts(), tree, paths),
     Loop: lambda: follow_loop(path, code, tree, paths),
     Call: lambda: follow_call(path, code, tree, paths)}[type(code)]()
    return path


def follow_row(path, parts, tree, paths):
    trees = tree[1]
    check(type(trees) is tuple and len(trees) <= len(parts) and bool(trees) == bool(parts))
    for k, tree in enumerate(trees):
        check(path.way == "on")
        path.join(follow(parts[k], tree, paths))
    check(path.way != "on" or len(trees) == len(parts))


def follow_either(path, parts, tree, paths):
    check(type(tree[1]) is int and tree[1] in range(len(parts)))
    path.choices.append(tree[1])
    path.join(follow(parts[tree[1]], tree[2], paths))


def follow_loop(path, loop, tree, paths):
    check(type(tree[1]) is tuple)
    inner = Path()
    many = 0
    for turns in tree[1]:
        check(type(turns) is tuple and len(turns) == 2 and type(turns[0]) is int and turns[0] >= 1)
        if turns[0] > MOST:
            raise TooLong()
        for _ in range(turns[0]):
            check(inner.way == "on")
            many += 1
            inner.add(("turn", many))
            inner.join(follow(loop.code, turns[1], paths))
    check(loop.high is None or many <= loop.high)
    check(inner.way != "on" or many >= loop.low)
    path.choices.append(max(many, loop.low))
    path.join(inner)
    if path.way == "leave":
        path.way = "on"


def follow_call(path, code, tree, paths):
    check(type(tree[1]) is int and tree[1] in range(len(paths)))
    name, inner = paths[tree[1]]
    check(name == code.name)
    path.add(("call", name))
    path.join(inner)
    if path.way == "return":
        path.way = "on"


WRONG = ["go", "here", ("row", ()), ("loop", ()), ("either", 0, "go"), ("call", 0), None, 3, (), ["row", ()],
         ("row", []), ("loop", [(1, "go")]), ("loop", ((True, "go"),)), ("loop", ((0, "go"),)), "row"]


def random_entries(rng, program, wrong):
    """Entries by chance, with wrong parts here and there if wrong is above 0."""
    known, entries = [], []
    for name in [rng.choice(program.names()) for _ in range(rng.choice([0, 1, 2, 4]))] + [program.first]:
        tree, way = random_tree(rng, program[name], known, wrong)
        known.append((name, way))
        entries.append((name, tree))
    return tuple(entries)


def random_tree(rng, code, known, wrong):
    """A tree of a code and its way; `known` has the names and ways of earlier entries."""
    if rng.random() < 0.06:
        return "here", "here"
    if rng.random() < wrong:
        return rng.choice(WRONG), "on"
    if isinstance(code, Row):
        trees, way = [], "on"
        for part in code.parts():
            if way == "on":
                tree, way = random_tree(rng, part, known, wrong)
                trees.append(tree)
        return ("row", tuple(trees)), way
    if isinstance(code, Either):
        index = rng.randrange(len(code.parts()))
        tree, way = random_tree(rng, code.parts()[index], known, wrong)
        return ("either", index + (rng.random() < wrong), tree), way
    if isinstance(code, Loop):
        return random_turns(rng, code, known, wrong)
    if isinstance(code, Call):
        calls = [k for k, (name, _) in enumerate(known) if name == code.name or rng.random() < wrong]
        if not calls:
            return "here", "here"
        index = rng.choice(calls)
        return ("call", index), "here" if known[index][1] == "here" else "on"
    return "go", "leave" if isinstance(code, Leave) else "return" if isinstance(code, Return) else "on"


def random_turns(rng, loop, known, wrong):
    turns, way, many = [], "on", 0
    wanted = rng.randint(loop.low, loop.low + 3 if loop.high is None else loop.high)
    while way == "on" and many < wanted:
        tree, way = random_tree(rng, loop.code, known, wrong)
        times = rng.randint(1, wanted - many) if way == "on" else 1
        if rng.random() < wrong:
            times += rng.choice([-1, 1])
        turns.append((times, tree))
        many += times if times > 0 else 1
    return ("loop", tuple(turns)), "on" if way == "leave" else way
