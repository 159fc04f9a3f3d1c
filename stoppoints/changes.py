"""Changes of code that leave the walks of a program as they are, but for looks, calls and turns."""

from stoppoints.checks import GREATEST_TIME, is_between
from stoppoints.codes import Call, Either, Leave, Look, Loop, Return, Row, loops_of, pieces_of
from stoppoints.errors import CannotInline, InvalidLoop, InvalidTurns
from stoppoints.parts import exchanged, with_loop
from stoppoints.programs import Program, can_leave, rings

MOST_COPIES = 200


def split(program, name, index, count):
    """The program with a look behind each turn of a loop whose number is a multiple of count."""
    loop = loop_of(program, name, index)
    check_count(loop, count, GREATEST_TIME)
    bundle = Row(Loop(count, count, loop.code), Look("split"))
    return with_new_loop(program, name, index, bundled(loop, count, bundle))


def unrolled(program, name, index, count):
    """The program with count turns of a loop written out one behind another."""
    loop = loop_of(program, name, index)
    check_count(loop, count, MOST_COPIES)
    copies = [loop.code] * count
    return with_new_loop(program, name, index, bundled(loop, count, Row(*copies)))


def inlined(program, name):
    """The program with the code of a function in place of each call of it."""
    code = program[name]
    if is_in_ring(program, name) or has_return_in_loop(code):
        raise CannotInline(name)
    body = Loop(1, 1, exchanged(code, Return(), Leave())) if has_return(code) else code
    kept = [other for other in program.names() if other != name or other == program.first]
    functions = {other: exchanged(program[other], Call(name), body) for other in kept}
    return Program(program.first, functions)


def loop_of(program, name, index):
    """The loop of this index in a function, if its turns can be put into loops of their own."""
    loops = loops_of(program[name])
    if not is_between(index, 0, len(loops) - 1) or can_leave(loops[index].code):
        raise InvalidLoop(index)
    return loops[index]


def check_count(loop, count, most):
    """Refuses what is no number of turns that can be taken together."""
    if not is_between(count, 1, most):
        raise InvalidTurns(count)
    if loop.high is None and loop.low // count + 1 > GREATEST_TIME:
        raise InvalidTurns(count)


def with_new_loop(program, name, index, code):
    """The program with this code in place of a loop."""
    return program.with_function(name, with_loop(program[name], index, code))


def bundled(loop, count, bundle):
    """The code that goes through bundles of count turns of a loop, and then through the turns that are left."""
    fewest, left = divmod(loop.low, count)
    if loop.high is None:
        return Either(
            turns_behind(fewest, fewest, bundle, Loop(left, count - 1, loop.code)),
            turns_behind(fewest + 1, None, bundle, Loop(0, count - 1, loop.code)),
        )
    most, most_left = divmod(loop.high, count)
    if fewest == most:
        return turns_behind(fewest, fewest, bundle, Loop(left, most_left, loop.code))
    ways = [turns_behind(fewest, fewest, bundle, Loop(left, count - 1, loop.code))]
    if most > fewest + 1:
        ways.append(turns_behind(fewest + 1, most - 1, bundle, Loop(0, count - 1, loop.code)))
    ways.append(turns_behind(most, most, bundle, Loop(0, most_left, loop.code)))
    return Either(*ways)


def turns_behind(low, high, bundle, turns):
    """From low to high bundles, and turns behind them."""
    return Row(Loop(low, high, bundle), turns)


def is_in_ring(program, name):
    """Whether a function calls itself, however far around."""
    return any([name in ring for ring in rings(program)])


def has_return(code):
    """Whether a Return is in the code."""
    return any([isinstance(piece, Return) for piece in pieces_of(code)])


def has_return_in_loop(code):
    """Whether a Return is in a loop of the code."""
    return any([has_return(loop.code) for loop in loops_of(code)])
