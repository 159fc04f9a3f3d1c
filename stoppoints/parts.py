"""Codes that are made of others of the same form."""

from stoppoints.codes import Either, Loop, Row


def with_parts(code, parts):
    """A code of the same kind with other codes in it, as many as it has."""
    if isinstance(code, Row):
        return Row(*parts)
    if isinstance(code, Either):
        return Either(*parts)
    if isinstance(code, Loop):
        return Loop(code.low, code.high, parts[0])
    return code


def row_of(codes):
    """One code alone, or the row of several."""
    return codes[0] if len(codes) == 1 else Row(*codes)
