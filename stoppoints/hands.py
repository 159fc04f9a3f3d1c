"""A hand that goes along the codes of a program."""

from stoppoints.checks import is_between, is_whole
from stoppoints.codes import Call, Either, Leave, Look, Loop, Return, Row, Stand, Work
from stoppoints.errors import LimitExceeded

MOST_STEPS = 5000


class Turns:
    """How often a hand goes through the code of a loop, and how many turns it has begun."""

    def __init__(self, body, chosen):
        self.body = body
        self.chosen = chosen
        self.begun = 0


class Hand:
    """Goes on until the end or to where it has to choose, and writes down what it does.

    `path` has a tuple (step, time, stands) for each step, `place` is the Either or Loop where it has to choose.
    """

    def __init__(self, program):
        self._program = program
        # What is ahead, the next at the end; None is where a function ends. A list of its own instead of
        # calls of Python's, since functions may call one another up to the greatest number of steps.
        self._ahead = [None, program[program.first]]
        self.path = []
        self.place = None
        self._go()

    def can_take(self, choice):
        """Whether this is a choice where the hand has to choose."""
        place = self.place
        if isinstance(place, Either):
            return is_between(choice, 0, len(place.parts()) - 1)
        if isinstance(place, Loop):
            return is_whole(choice) and place.low <= choice and (place.high is None or choice <= place.high)
        return False

    def take(self, choice):
        """Goes on with a choice that it can take."""
        place = self.place
        self.place = None
        if isinstance(place, Either):
            self._ahead.append(place.parts()[choice])
        else:
            self._ahead.append(Turns(place.code, choice))
        self._go()

    def _go(self):
        while self._ahead and self.place is None:
            ahead = self._ahead.pop()
            if isinstance(ahead, Turns):
                self._turn(ahead)
            elif ahead is not None:
                self._do(ahead)

    def _turn(self, turns):
        if turns.begun < turns.chosen:
            turns.begun += 1
            self._note(("turn", turns.begun), 0, False)
            self._ahead.append(turns)
            self._ahead.append(turns.body)

    def _do(self, code):
        if isinstance(code, Work):
            self._note(("work", code.time), code.time, False)
        elif isinstance(code, Look):
            self._note(("look", code.name), code.cost, True)
        elif isinstance(code, Stand):
            self._note(("stand",), 0, True)
        elif isinstance(code, Row):
            self._ahead.extend(code.parts()[::-1])
        elif isinstance(code, Call):
            self._note(("call", code.name), 0, False)
            self._ahead.append(None)
            self._ahead.append(self._program[code.name])
        elif isinstance(code, Leave):
            self._drop_loop()
        elif isinstance(code, Return):
            self._drop_function()
        else:
            self.place = code

    def _drop_loop(self):
        while not isinstance(self._ahead.pop(), Turns):
            pass

    def _drop_function(self):
        while self._ahead.pop() is not None:
            pass

    def _note(self, step, time, stands):
        if len(self.path) == MOST_STEPS:
            raise LimitExceeded(MOST_STEPS)
        self.path.append((step, time, stands))
