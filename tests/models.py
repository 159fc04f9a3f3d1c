"""A desk in the plainest way, with copies of all that it has at each moment, to compare with the one of the package."""

from stoppoints.errors import InvalidCode, NothingToRedo, NothingToUndo, OverLimit
from stoppoints.rules import Rule, ruled, show_rule
from stoppoints.solving import span_of
from stoppoints.spans import Span
from stoppoints.texts import show_program


def snapshot(model):
    """All that is told of a Model or a Desk but for its notes and its history."""
    spans = []
    for name in model.names():
        try:
            spans.append(model.span_for(name).time)
        except InvalidCode:
            spans.append("too great")
    limits = [model.limit_of(name) for name in model.names()]
    return {"names": model.names(), "programs": [show_program(model[name]) for name in model.names()], "spans": spans,
            "limits": ["none" if limit is None else limit.time for limit in limits], "rule": show_rule(model.rule),
            "undoable": model.undoable, "many": len(model)}


class Model:
    def __init__(self):
        self.rows, self.rule = [], Rule.nowhere()
        self.undos, self.redos, self.lines = [], [], []

    def __len__(self):
        return len(self.rows)

    def __getitem__(self, name):
        return [row for row in self.rows if row[0] == name][0][1]

    def names(self):
        return [row[0] for row in self.rows]

    def limit_of(self, name):
        return [row for row in self.rows if row[0] == name][0][2]

    def span_for(self, name):
        return span_of(ruled(self[name], self.rule))

    @property
    def undoable(self):
        return len(self.undos)

    def now(self):
        return [tuple(row) for row in self.rows], self.rule

    def go_to(self, now):
        self.rows, self.rule = list(now[0]), now[1]

    def change(self, rows, rule, lines):
        """Goes on, unless one of the names is above its limit: these are all looked at again."""
        before = self.now()
        self.rows, self.rule = rows, rule
        try:
            for name, _, limit in rows:
                if limit is not None and not self.span_for(name) <= limit:
                    raise OverLimit(name, self.span_for(name))
        except (OverLimit, InvalidCode):
            self.go_to(before)
            raise
        self.undos, self.redos, self.lines = self.undos + [before], [], self.lines + lines

    def put(self, name, program):
        row = (name, program, self.limit_of(name) if name in self.names() else None)
        rows = [row if other[0] == name else other for other in self.rows]
        lines = show_program(program)
        self.change(rows if row in rows else rows + [row], self.rule, [f"put {name} {len(lines)}"] + lines)

    def remove(self, name):
        self.change([row for row in self.rows if row[0] != name], self.rule, [f"remove {name}"])

    def set_limit(self, name, limit):
        word = "none" if limit is None else "endless" if limit.is_endless() else str(limit.time)
        self.change([(*row[:2], limit) if row[0] == name else row for row in self.rows], self.rule, [f"limit {name} {word}"])

    def set_rule(self, rule):
        self.change(self.rows, rule, [f"rule {rule.entry} {rule.finish} {rule.back}"])

    def undo(self):
        if not self.undos:
            raise NothingToUndo()
        self.redos = self.redos + [self.now()]
        self.go_to(self.undos[-1])
        self.undos, self.lines = self.undos[:-1], self.lines + ["undo"]

    def redo(self):
        if not self.redos:
            raise NothingToRedo()
        self.undos = self.undos + [self.now()]
        self.go_to(self.redos[-1])
        self.redos, self.lines = self.redos[:-1], self.lines + ["redo"]

    def begin(self):
        """What end and fail take."""
        before = (self.now(), self.undos, self.redos, self.lines)
        self.undos, self.redos, self.lines = [], [], self.lines + ["begin"]
        return before

    def end(self, before):
        self.undos, self.redos, self.lines = before[1] + [before[0]], [], self.lines + ["end"]

    def fail(self, before):
        now, self.undos, self.redos, self.lines = before
        self.go_to(now)


class Failure(Exception):
    """An error that is none of the package."""


def some_programs():
    """Programs with spans of all kinds, some of which become too great under some rules."""
    from stoppoints.codes import Row, Work
    from stoppoints.programs import Program
    from stoppoints.texts import parse_code

    texts = ["5", "[1; 2]", "0..* 1", "3..5 [2; ?a]", "{1 | [3; call f]}", "[0..3 4; 0..* ?a]", "[]", "0..* [1; {2 | !}]"]
    great = [Program("f", {"f": Row(*[Work(1)] * many)}) for many in (196, 197, 198, 199)]
    return [Program("f", {"f": parse_code(text)}) for text in texts] + great + [
        Program("g", {"f": parse_code("[2; call g]"), "g": parse_code("{return | 0..2 call f}"), "h": parse_code("0..* 9")})]


def some_limits():
    return [None, None, Span.endless(), Span(0), Span(1), Span(2), Span(3), Span(5), Span(9), Span(10 ** 60 - 1)]


def some_rules():
    return [Rule(entry, finish, back) for entry in ("none", "rings", "all") for finish in ("none", "rings", "all")
            for back in ("none", "unknown", 4, 0)]


def deed_by_chance(rng):
    """The name of a method and its arguments."""
    word = rng.choice(["put"] * 6 + ["remove", "set_limit", "set_limit", "set_limit", "set_rule", "set_rule", "undo", "undo",
                                     "undo", "redo", "redo"])
    if word in ("undo", "redo"):
        return word, ()
    if word == "set_rule":
        return word, (rng.choice(some_rules()),)
    name = rng.choice("abc")
    if word == "put":
        return word, (name, rng.choice(some_programs()))
    return word, ((name, rng.choice(some_limits())) if word == "set_limit" else (name,))
