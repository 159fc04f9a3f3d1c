"""Rules: where looks are put in every program."""

from stoppoints.checks import GREATEST_TIME, is_between
from stoppoints.codes import loops_of
from stoppoints.errors import InvalidRule
from stoppoints.places import placed
from stoppoints.programs import rings
from stoppoints.words import is_number

# The words of the entry and of the finish, and those of the back, from less to more.
WORDS = ("none", "rings", "all")
BACK_WORDS = ("none", "unknown")
GREATEST_BACK = GREATEST_TIME - 1
# The greatest back has so many digits.
MOST_DIGITS = 30


class Rule:
    """A rule of three parts, which never change."""

    def __init__(self, entry, finish, back):
        for word in (entry, finish):
            if not isinstance(word, str) or word not in WORDS:
                raise InvalidRule(word)
        if not is_above(back) and not (isinstance(back, str) and back in BACK_WORDS):
            raise InvalidRule(back)
        self._entry = entry
        self._finish = finish
        self._back = back

    @staticmethod
    def nowhere():
        """The rule that puts looks nowhere."""
        return Rule("none", "none", "none")

    @staticmethod
    def at_entries(*, only_rings=False):
        """Looks at the entries of all functions, or of those in a ring."""
        return Rule("rings" if only_rings is True else "all", "none", "none")

    @staticmethod
    def at_finishes(*, only_rings=False):
        """Looks at the finishes of all functions, or of those in a ring."""
        return Rule("none", "rings" if only_rings is True else "all", "none")

    @staticmethod
    def at_backs(above=0):
        """Looks at the backs of the loops whose high is above a number or None, or, with None, of the latter alone."""
        if above is not None and not is_above(above):
            raise InvalidRule(above)
        return Rule("none", "none", "unknown" if above is None else above)

    @property
    def entry(self):
        """The word for the entries."""
        return self._entry

    @property
    def finish(self):
        """The word for the finishes."""
        return self._finish

    @property
    def back(self):
        """The word or the integer for the backs."""
        return self._back

    def __or__(self, other):
        check_rule(other)
        more = [mine if rank(mine) > rank(theirs) else theirs for mine, theirs in pairs_of(self, other)]
        return Rule(more[0], more[1], more[2])

    def __and__(self, other):
        check_rule(other)
        less = [mine if rank(mine) < rank(theirs) else theirs for mine, theirs in pairs_of(self, other)]
        return Rule(less[0], less[1], less[2])

    def __le__(self, other):
        check_rule(other)
        return all([rank(mine) <= rank(theirs) for mine, theirs in pairs_of(self, other)])

    def __eq__(self, other):
        return isinstance(other, Rule) and all([mine == theirs for mine, theirs in pairs_of(self, other)])

    def places(self, program):
        """The places of the program at which the rule puts looks, in order."""
        within = [name for ring in rings(program) for name in ring]
        found = []
        for name in program.names():
            if self._entry == "all" or (self._entry == "rings" and name in within):
                found.append(("entry", name, 0))
            for index, loop in enumerate(loops_of(program[name])):
                if is_looked_at(loop, self._back):
                    found.append(("back", name, index))
            if self._finish == "all" or (self._finish == "rings" and name in within):
                found.append(("finish", name, 0))
        return found


def is_above(value):
    """Whether a value is an integer that loops can be above."""
    return is_between(value, 0, GREATEST_BACK)


def check_rule(value):
    """Refuses what is no rule."""
    if not isinstance(value, Rule):
        raise InvalidRule(value)


def pairs_of(one, other):
    """The three parts of one rule, each with that of the other one."""
    return [(one.entry, other.entry), (one.finish, other.finish), (one.back, other.back)]


def rank(part):
    """A number that is greater for more looks, among the words and integers of one part."""
    if not isinstance(part, str):
        return len(BACK_WORDS) + GREATEST_BACK - part
    return WORDS.index(part) if part in WORDS else BACK_WORDS.index(part)


def is_looked_at(loop, back):
    """Whether there is a look at the back of a loop."""
    if back == "none" or loop.high is None:
        return back != "none"
    return back != "unknown" and loop.high > back


def show_rule(rule):
    """The text of a rule."""
    return f"{rule.entry} {rule.finish} {rule.back}"


def parse_rule(text):
    """The rule of a text; exactly the texts of rules are read."""
    words = text.split(" ") if isinstance(text, str) else []
    if len(words) != 3:
        raise InvalidRule(text)
    try:
        return rule_of(words)
    except InvalidRule:
        raise InvalidRule(text) from None


def rule_of(words):
    """The rule of three words; the error tells the first one that is wrong."""
    # A word that is no number is left for the rule to refuse.
    back = int(words[2]) if is_number(words[2], MOST_DIGITS) else words[2]
    return Rule(words[0], words[1], back)


def ruled(program, rule):
    """The program with looks at the places of a rule."""
    check_rule(rule)
    return placed(program, rule.places(program))
