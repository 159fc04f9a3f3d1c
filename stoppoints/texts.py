"""The texts of codes and of programs."""

from stoppoints.checks import LETTERS, is_name
from stoppoints.codes import MOST_DEPTH, Call, Either, Leave, Look, Loop, Return, Row, Stand, Work
from stoppoints.errors import InvalidCode, InvalidText, StopError
from stoppoints.programs import Program

DIGITS = "0123456789"
# The greatest time has so many digits. Longer words are not read at all: Python refuses very long ones.
MOST_DIGITS = 31


def show_code(code):
    """The text of a code."""
    if isinstance(code, Work):
        return str(code.time)
    if isinstance(code, Look):
        return show_look(code)
    if isinstance(code, Stand):
        return "!"
    if isinstance(code, Row):
        return "[" + "; ".join([show_code(part) for part in code.parts()]) + "]"
    if isinstance(code, Either):
        return "{" + " | ".join([show_code(part) for part in code.parts()]) + "}"
    if isinstance(code, Loop):
        high = "*" if code.high is None else str(code.high)
        return f"{code.low}..{high} {show_code(code.code)}"
    if isinstance(code, Call):
        return f"call {code.name}"
    return "leave" if isinstance(code, Leave) else "return"


def show_look(look):
    """The text of a look, with its cost if it has one."""
    if look.cost == 0:
        return f"?{look.name}"
    return f"?{look.name}:{look.cost}"


def parse_code(text):
    """The code of a text; exactly the texts of codes are read."""
    if not isinstance(text, str):
        raise InvalidText(text)
    try:
        code = CodeReader(text).read(1)
    except StopError:
        raise InvalidText(text) from None
    if show_code(code) != text:
        raise InvalidText(text)
    return code


class CodeReader:
    """Reads a code at the beginning of a text.

    It overlooks signs that are missing, and what stands behind the code: parse_code finds all of this
    when it compares the text with the one of the code.
    """

    def __init__(self, text):
        self._text = text
        self._at = 0

    def read(self, depth):
        """The code that begins here, in so many codes with itself."""
        # Without this, a long text of nested codes would come to Python's own limit.
        if depth > MOST_DEPTH:
            raise InvalidCode(None)
        if self._skip("["):
            parts = self._read_parts("; ", "]", depth)
            return Row(*parts)
        if self._skip("{"):
            parts = self._read_parts(" | ", "}", depth)
            return Either(*parts)
        if self._skip("?"):
            return self._look()
        if self._skip("!"):
            return Stand()
        if self._skip("call "):
            return Call(self._word(LETTERS))
        if self._skip("leave"):
            return Leave()
        if self._skip("return"):
            return Return()
        return self._work_or_loop(depth)

    def _read_parts(self, between, end, depth):
        parts = []
        if self._skip(end):
            return parts
        parts.append(self.read(depth + 1))
        while self._skip(between):
            parts.append(self.read(depth + 1))
        self._skip(end)
        return parts

    def _look(self):
        name = self._word(LETTERS)
        if self._skip(":"):
            return Look(name, self._number())
        return Look(name)

    def _work_or_loop(self, depth):
        number = self._number()
        if not self._skip(".."):
            return Work(number)
        high = None if self._skip("*") else self._number()
        self._skip(" ")
        return Loop(number, high, self.read(depth + 1))

    def _number(self):
        word = self._word(DIGITS)
        if not 1 <= len(word) <= MOST_DIGITS:
            raise InvalidText(word)
        return int(word)

    def _word(self, signs):
        begin = self._at
        while self._at < len(self._text) and self._text[self._at] in signs:
            self._at += 1
        return self._text[begin:self._at]

    def _skip(self, word):
        found = self._text.startswith(word, self._at)
        if found:
            self._at = self._at + len(word)
        return found


def show_program(program):
    """The lines of a program: its first function, then the functions by names."""
    lines = [f"first {program.first}"]
    for name in program.names():
        lines.append(f"{name} = {show_code(program[name])}")
    return lines


def parse_program(lines):
    """The program of a list of lines as show_program writes them."""
    if not lines:
        raise InvalidText(None)
    first = read_first(lines[0])
    pairs = [read_function(line) for line in lines[1:]]
    names = [name for name, _ in pairs]
    if names != sorted(set(names)):
        raise InvalidText(None)
    return Program(first, dict(pairs))


def read_first(line):
    """The name in the line of the first function."""
    word, _, name = words_of(line, " ")
    if word != "first" or not is_name(name):
        raise InvalidText(line)
    return name


def read_function(line):
    """The name and the code in the line of a function."""
    name, _, text = words_of(line, " = ")
    if not is_name(name):
        raise InvalidText(line)
    try:
        return name, parse_code(text)
    except InvalidText:
        raise InvalidText(line) from None


def words_of(line, between):
    """What stands ahead of a sign and behind it, and the sign itself between them."""
    if not isinstance(line, str):
        raise InvalidText(line)
    return line.partition(between)
