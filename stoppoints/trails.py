"""Trails: walks that are written down so that they can be measured in jumps."""

from stoppoints.checks import is_between, is_whole
from stoppoints.codes import Call, Either, Leave, Look, Loop, Row, Stand, Work
from stoppoints.errors import InvalidTrail

# What a part of a walk did is told as (time, many, first, last, greatest), as those of a Trail. A part without
# Looks and Stands has one stretch, which is both its first and its last one.
NOTHING = (0, 0, 0, 0, 0)


class Trail:
    """A walk, the last of these entries, which may be made of the earlier ones."""

    def __init__(self, program, entries):
        _, way, did = read_entries(program, entries)[-1]
        self._entries = entries
        self._done = way in ("on", "return")
        self.time, self._many, self._first, self._last, self._greatest = did

    @property
    def entries(self):
        """The entries."""
        return self._entries

    @property
    def done(self):
        """Whether the walk comes to the end of the first function."""
        return self._done

    @property
    def many(self):
        """How many Looks and Stands the walk has."""
        return self._many

    @property
    def first(self):
        """The first stretch."""
        return self._first

    @property
    def last(self):
        """The last stretch."""
        return self._last

    @property
    def greatest(self):
        """The greatest stretch."""
        return self._greatest

    def __len__(self):
        return len(self._entries)


def read_entries(program, entries):
    """A list of what each entry tells: its function, its way out of it and what it did."""
    if not isinstance(entries, tuple) or not entries:
        raise InvalidTrail(None)
    done = []
    for index, entry in enumerate(entries):
        told = read_entry(program, entry, done)
        if told is None:
            raise InvalidTrail(index)
        done.append(told)
    if done[-1][0] != program.first:
        raise InvalidTrail(len(entries) - 1)
    return done


def read_entry(program, entry, done):
    """What an entry tells behind those that are done, None if it is none."""
    if not isinstance(entry, tuple) or len(entry) != 2:
        return None
    name, tree = entry
    if name not in program:
        return None
    told = read_tree(program[name], tree, done)
    return None if told is None else (name, told[0], told[1])


def read_tree(code, tree, done):
    """The way out of a code that a tree takes, "here" if it ends within, and what it did; None if it is no tree."""
    if is_word(tree, "here"):
        return "here", NOTHING
    if isinstance(code, Row):
        return read_row(code, tree, done)
    if isinstance(code, Either):
        return read_either(code, tree, done)
    if isinstance(code, Loop):
        return read_loop(code, tree, done)
    if isinstance(code, Call):
        return read_call(code, tree, done)
    return read_step(code) if is_word(tree, "go") else None


def read_step(code):
    """The way out of a code without parts, and what it did."""
    if isinstance(code, Work):
        return "on", (code.time, 0, code.time, code.time, code.time)
    if isinstance(code, (Look, Stand)):
        cost = code.cost if isinstance(code, Look) else 0
        return "on", (cost, 1, cost, 0, cost)
    return "leave" if isinstance(code, Leave) else "return", NOTHING


def read_row(row, tree, done):
    """The same for a tree of a row."""
    parts = row.parts()
    if not is_tree(tree, "row", 2) or not isinstance(tree[1], tuple):
        return None
    trees = tree[1]
    if len(trees) > len(parts):
        return None
    way, did = "on", NOTHING
    for part, within in zip(parts, trees):
        told = read_tree(part, within, done) if way == "on" else None
        if told is None:
            return None
        way, did = told[0], behind(did, told[1])
    return None if way == "on" and len(trees) < len(parts) else (way, did)


def read_either(either, tree, done):
    """The same for a tree of a choice."""
    parts = either.parts()
    if not is_tree(tree, "either", 3) or not is_between(tree[1], 0, len(parts) - 1):
        return None
    return read_tree(parts[tree[1]], tree[2], done)


def read_loop(loop, tree, done):
    """The same for a tree of a loop."""
    if not is_tree(tree, "loop", 2) or not isinstance(tree[1], tuple):
        return None
    way, did, many = "on", NOTHING, 0
    for turns in tree[1]:
        told = read_turns(loop.code, turns, done) if way == "on" else None
        if told is None:
            return None
        way, did, many = told[0], behind(did, told[1]), many + turns[0]
    if (way == "on" and many < loop.low) or (loop.high is not None and many > loop.high):
        return None
    return "on" if way == "leave" else way, did


def read_turns(code, turns, done):
    """The way out of the last of some turns, and what they did; None if they cannot be taken so."""
    if not isinstance(turns, tuple) or len(turns) != 2:
        return None
    times, tree = turns
    if not is_whole(times) or times < 1:
        return None
    told = read_tree(code, tree, done)
    if told is None or (told[0] != "on" and times > 1):
        return None
    return told[0], repeated(told[1], times)


def read_call(call, tree, done):
    """The same for a tree of a call."""
    if not is_tree(tree, "call", 2) or not is_between(tree[1], 0, len(done) - 1):
        return None
    name, way, did = done[tree[1]]
    if name != call.name:
        return None
    return "here" if way == "here" else "on", did


def is_word(value, word):
    """Whether a value is just this word."""
    return isinstance(value, str) and value == word


def is_tree(value, word, many):
    """Whether a value is a tuple of so many things, the first of which is this word."""
    return isinstance(value, tuple) and len(value) == many and is_word(value[0], word)


def behind(one, other):
    """What two parts of a walk did, one behind the other."""
    middle = one[3] + other[2]
    first = one[2] if one[1] else middle
    last = other[3] if other[1] else middle
    greatest = max(int(one[4]), int(other[4]), int(middle))
    return one[0] + other[0], one[1] + other[1], first, last, greatest


def repeated(did, times):
    """What a part of a walk did that is gone through so many times."""
    time, many, first, last, greatest = did
    if not many:
        return time * times, 0, time * times, time * times, time * times
    between = last + first if times > 1 else 0
    return time * times, many * times, first, last, max(greatest, int(between))
