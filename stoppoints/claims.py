"""Claims of any author on the numbers of all calls of a program."""

from stoppoints.errors import InvalidTrail
from stoppoints.numbers import Numbers, numbers_by
from stoppoints.spans import Span
from stoppoints.trails import Trail


def check_claims(program, claims):
    """The claimed span of the first function, None if the claims are not right."""
    if not is_claims(program, claims):
        return None
    for name in program.names():
        if not numbers_by(program[name], claims).called() <= claims[name]:
            return None
    return claims[program.first].span


def is_claims(program, value):
    """Whether a value is a dict that has Numbers for each name of a function, and nothing else."""
    if not isinstance(value, dict) or len(value) != len(program):
        return False
    if not all([name in program for name in value]):
        return False
    return all([isinstance(value[name], Numbers) for name in value])


def shows_span(program, claims, entries):
    """The span of the program, if the claims and the entries of a trail show it; otherwise None."""
    span = check_claims(program, claims)
    if span is None:
        return None
    try:
        trail = Trail(program, entries)
    except InvalidTrail:
        return None
    return span if span == Span(trail.greatest) else None
