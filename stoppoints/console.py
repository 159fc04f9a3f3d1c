"""A console: lines of words that ask and change a desk."""

from stoppoints.errors import InvalidCommand, StopError
from stoppoints.places import placed, places_of
from stoppoints.placings import Placings
from stoppoints.rules import rule_of
from stoppoints.words import read_limit, read_number, show_limit, show_span


def tell_names(desk, words):
    """The names in order."""
    return " ".join(desk.names())


def tell_span(desk, words):
    """The span of a name."""
    return show_span(desk.span_for(words[1]))


def tell_table(desk, words):
    """A line for each name."""
    return "\n".join([table_line(desk, name) for name in desk.names()])


def table_line(desk, name):
    """The name, the number of functions, the span and the limit, in columns."""
    many = len(desk[name])
    span = show_span(desk.span_for(name))
    limit = show_limit(desk.limit_of(name))
    return f"{name:<8}{many:>4}{span:>12}{limit:>12}"


def do_limit(desk, words):
    """Sets a limit."""
    desk.set_limit(words[1], read_limit(words[2]))
    return "limited"


def do_rule(desk, words):
    """Sets the rule."""
    desk.set_rule(rule_of(words[1:]))
    return "ruled"


def do_copy(desk, words):
    """Sets a name to the program of another one."""
    desk.put(words[2], desk[words[1]])
    return f"put {words[2]}"


def do_place(desk, words):
    """Sets a name to its program with a look at one place more."""
    _, name, kind, function, word = words
    place = (kind, function, read_number(word))
    desk.put(name, placed(desk[name], [place]))
    return f"put {name}"


def tell_fewest(desk, words):
    """How many places behind works keep a limit in the program of a name."""
    limit = read_limit(words[2])
    program = desk[words[1]]
    found = Placings(program, places_of(program, "work"), limit=limit).fewest()
    return "never" if found is None else f"fewest {found}"


def do_undo(desk, words):
    """Takes back the last change."""
    desk.undo()
    return "undone"


def do_redo(desk, words):
    """Does again the last change that was taken back."""
    desk.redo()
    return "redone"


# What is done for a first word and a number of words.
ACTIONS = {
    ("names", 1): tell_names,
    ("span", 2): tell_span,
    ("table", 1): tell_table,
    ("limit", 3): do_limit,
    ("rule", 4): do_rule,
    ("copy", 3): do_copy,
    ("place", 5): do_place,
    ("fewest", 3): tell_fewest,
    ("undo", 1): do_undo,
    ("redo", 1): do_redo,
}


def carry_out(desk, line):
    """The answer of a line."""
    words = line.split(" ")
    key = (words[0], len(words))
    if key not in ACTIONS:
        raise InvalidCommand(words[0])
    action = ACTIONS[key]
    return action(desk, words)


def answer_to(desk, line):
    """The answer of a line, `refused` if it raises an error."""
    try:
        return carry_out(desk, line)
    except StopError:
        return "refused"


class Console:
    """Carries out lines on a desk."""

    def __init__(self, desk):
        self._desk = desk

    def __call__(self, line):
        return carry_out(self._desk, line)

    def answers(self, lines):
        """Yields the answer of each line, `refused` for one that raises an error."""
        for line in lines:
            yield answer_to(self._desk, line)
