"""Codes that are made of others of the same form."""

from stoppoints.codes import Either, Loop, Row, loops_of


def with_parts(code, parts):
    """A code of the same kind with other codes in it, as many as it has."""
    if isinstance(code, Row):
        return Row(*parts)
    if isinstance(code, Either):
        return Either(*parts)
    if isinstance(code, Loop):
        return Loop(code.low, code.high, parts[0])
    return code


def row_of(codes):
    """One code alone, or the row of several."""
    return codes[0] if len(codes) == 1 else Row(*codes)


def exchanged(code, old, new):
    """The code with a new one in place of each code in it that is equal to an old one without parts."""
    if code == old:
        return new
    return with_parts(code, [exchanged(part, old, new) for part in code.parts()])


def with_loop(code, index, new):
    """The code with a new one in place of the loop of this index."""
    if isinstance(code, Loop):
        if index == 0:
            return new
        index = index - 1
    parts = []
    for part in code.parts():
        many = len(loops_of(part))
        parts.append(with_loop(part, index, new) if 0 <= index < many else part)
        index = index - many
    return with_parts(code, parts)
