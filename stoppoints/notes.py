"""Notes of all that was done on a desk, and desks that are read back from them."""

from stoppoints.desks import Desk
from stoppoints.errors import InvalidLine, InvalidText, StopError
from stoppoints.rules import parse_rule, show_rule
from stoppoints.texts import parse_program, show_program
from stoppoints.words import read_limit, read_number, show_limit


def notes(desk):
    """The lines of all deeds that were accepted, in order."""
    return [line for deed in desk.accepted() for line in lines_of(deed)]


def lines_of(deed):
    """The lines of a deed."""
    word = deed[0]
    if word == "put":
        lines = show_program(deed[2])
        return [f"put {deed[1]} {len(lines)}"] + lines
    if word == "limit":
        return [f"limit {deed[1]} {show_limit(deed[2])}"]
    if word == "rule":
        return [f"rule {show_rule(deed[1])}"]
    return [" ".join(deed)]


def read_notes(lines):
    """A desk with these notes, that acts as the one of which they were taken."""
    if not isinstance(lines, list) or not all([isinstance(line, str) for line in lines]):
        raise InvalidLine(None)
    return NotesReader(lines).read()


class NotesReader:
    """Does all deeds of notes on a desk of its own, one behind another."""

    def __init__(self, lines):
        self._lines = list(lines)
        self._at = 0
        self._desk = Desk()

    def read(self):
        """The desk behind all deeds."""
        while self._at < len(self._lines):
            self._read_deed()
        return self._desk

    def _read_deed(self):
        """Does the deed that begins here, a whole block if it is the begin of one."""
        index = self._at
        try:
            if self._lines[index] == "begin":
                self._read_block()
            else:
                self._do(self._lines[index].split(" "))
        except InvalidLine:
            # This tells of a line in the block, or of its end that is missing.
            raise
        except StopError:
            raise InvalidLine(index) from None

    def _read_block(self):
        with self._desk.trial():
            self._at += 1
            while self._at < len(self._lines) and self._lines[self._at] != "end":
                self._read_deed()
            if self._at == len(self._lines):
                raise InvalidLine(self._at)
            self._at += 1

    def _do(self, words):
        word = words[0]
        if word == "put" and len(words) == 3:
            self._put(words[1], words[2])
        elif word == "remove" and len(words) == 2:
            self._desk.remove(words[1])
        elif word == "limit" and len(words) == 3:
            self._desk.set_limit(words[1], read_limit(words[2]))
        elif word == "rule":
            self._desk.set_rule(parse_rule(" ".join(words[1:])))
        elif words == ["undo"]:
            self._desk.undo()
        elif words == ["redo"]:
            self._desk.redo()
        else:
            raise InvalidText(" ".join(words))
        self._at += 1

    def _put(self, name, word):
        """Sets the program of the next lines; the last one of these is the line of the deed that is here then."""
        count = read_number(word)
        begin = self._at + 1
        if count > len(self._lines) - begin:
            raise InvalidText(word)
        self._desk.put(name, parse_program(self._lines[begin:begin + count]))
        self._at = self._at + count
