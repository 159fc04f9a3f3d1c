"""Places of programs where looks can be put, and programs with looks there."""

from stoppoints.checks import is_between, is_time
from stoppoints.codes import Look, Loop, Return, Work, loops_of, pieces_of
from stoppoints.errors import InvalidPlace, InvalidTime
from stoppoints.parts import row_of, with_parts
from stoppoints.programs import Program

KINDS = ("entry", "work", "back", "finish")


def places_of(program, *kinds):
    """The places of a program, of these kinds or of all four, in order."""
    for kind in kinds:
        if not is_kind(kind):
            raise InvalidPlace(kind)
    wanted = kinds if kinds else KINDS
    found = []
    for name in program.names():
        for kind in KINDS:
            if kind in wanted:
                many = how_many(program[name], kind)
                found.extend([(kind, name, index) for index in range(many)])
    return found


def is_kind(value):
    """Whether a value is one of the four kinds."""
    return isinstance(value, str) and value in KINDS


def how_many(code, kind):
    """How many places of this kind the code of a function has."""
    if kind == "work":
        return len([piece for piece in pieces_of(code) if isinstance(piece, Work)])
    return len(loops_of(code)) if kind == "back" else 1


def is_place(program, value):
    """Whether a value is a place of the program."""
    if not isinstance(value, tuple) or len(value) != 3:
        return False
    kind, name, index = value
    if not is_kind(kind) or name not in program:
        return False
    return is_between(index, 0, how_many(program[name], kind) - 1)


def check_places(program, places):
    """Refuses what is no list or tuple of places of the program, each once."""
    if not isinstance(places, (list, tuple)):
        raise InvalidPlace(places)
    ahead = {}
    for place in places:
        if not is_place(program, place) or place in ahead:
            raise InvalidPlace(place)
        ahead[place] = True


def placed(program, places, *, cost=0):
    """The program with looks of this cost at the places."""
    check_places(program, places)
    if not is_time(cost):
        raise InvalidTime(cost)
    functions = {}
    for name in program.names():
        here = {(kind, index): True for kind, function, index in places if function == name}
        functions[name] = Placer(here, cost).function(program[name]) if here else program[name]
    return Program(program.first, functions)


class Placer:
    """Puts looks at places of one function, which are the keys of a dict: pairs of a kind and an index."""

    def __init__(self, places, cost):
        self._places = places
        self._cost = cost
        self._works = 0
        self._loops = 0

    def function(self, code):
        """The code of the function with the looks."""
        return row_of(self._looks("entry", 0) + [self._changed(code)] + self._looks("finish", 0))

    def _looks(self, kind, index):
        """A list of the look at this place, empty if there is none."""
        return [Look(kind, self._cost)] if (kind, index) in self._places else []

    def _changed(self, code):
        if isinstance(code, Work):
            self._works += 1
            return row_of([code] + self._looks("work", self._works - 1))
        if isinstance(code, Return):
            return row_of(self._looks("finish", 0) + [code])
        if isinstance(code, Loop):
            self._loops += 1
            looks = self._looks("back", self._loops - 1)
            return with_parts(code, [row_of([self._changed(code.code)] + looks)])
        return with_parts(code, [self._changed(part) for part in code.parts()])
