"""Programs that show that one rule leaves longer spans than another one."""

from stoppoints.codes import Call, Either, Loop, Row, Work
from stoppoints.programs import Program
from stoppoints.rules import check_rule, rank


def parting_program(one, other):
    """A program with a greater span under the rule one than under the other one, None if there is none.

    In a part in which the other rule has more, the program has a span of 1 by the looks of this part alone, and
    a greater one by all looks of the two other parts.
    """
    check_rule(one)
    check_rule(other)
    if rank(other.entry) > rank(one.entry):
        return ring_ahead() if one.entry == "none" else calls_ahead()
    if rank(other.finish) > rank(one.finish):
        return ring_behind() if one.finish == "none" else calls_behind()
    if rank(other.back) > rank(one.back):
        return Program("f", {"f": turns_without_high() if other.back == "unknown" else turns_above(other.back)})
    return None


def ring_ahead():
    """A ring whose works lie ahead of the call, so that only entries lie between them."""
    return Program("f", {"f": Row(Work(1), Either(Row(), Call("f")))})


def ring_behind():
    """A ring whose works lie behind the call, so that only finishes lie between them."""
    return Program("f", {"f": Row(Either(Row(), Call("f")), Work(1))})


def calls_ahead():
    """The same as ring_ahead without a ring."""
    return Program("f", {"f": Row(Work(1), Call("g")), "g": Work(1)})


def calls_behind():
    """The same as ring_behind without a ring."""
    return Program("f", {"f": Row(Call("g"), Work(1)), "g": Work(1)})


def turns_without_high():
    """A loop for which it needs a look at the backs of those without a high."""
    return Loop(0, None, Work(1))


def turns_above(back):
    """A loop with one turn more than back, and a work behind it, so that one turn makes a longer stretch, too."""
    return Row(Loop(0, back + 1, Work(1)), Work(1))
