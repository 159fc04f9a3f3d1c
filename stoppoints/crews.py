"""Crews: hands of one program, and how long it takes until they stand."""

from stoppoints.checks import check_known, check_name
from stoppoints.errors import InvalidNumber
from stoppoints.solving import span_of
from stoppoints.walks import Walk


class Crew:
    """Hands by names, in the order in which they were first set."""

    def __init__(self, program):
        self._program = program
        # For each name the choices of the hand, the number of steps behind it, and the time until it stands.
        self._hands = {}
        self.bound = span_of(program)

    def __setitem__(self, name, hand):
        check_name(name)
        if not isinstance(hand, tuple) or len(hand) != 2:
            raise InvalidNumber(hand)
        self.put(name, hand[0], hand[1])

    def put(self, name, choices, k):
        """Sets a hand by its choices and the number of steps that it has behind it."""
        check_name(name)
        rest = Walk(self._program, choices).rest(k)
        self._hands[name] = (list(choices), k, rest)

    def __getitem__(self, name):
        check_known(name, self)
        choices, k, _ = self._hands[name]
        return list(choices), k

    def __iter__(self):
        raise TypeError("a crew is not iterated over: take its names()")

    def remove(self, name):
        """Removes a hand."""
        check_known(name, self)
        del self._hands[name]

    def __contains__(self, name):
        return isinstance(name, str) and name in self._hands

    def __len__(self):
        return len(self._hands)

    def names(self):
        """The names of the hands, in order."""
        return list(self._hands)

    def wait(self, *names):
        """The time until all of these hands stand, or all hands of the crew."""
        for name in names:
            check_known(name, self)
        chosen = list(names) if names else self.names()
        return max([int(self._hands[name][2]) for name in chosen], default=0)

    def latest(self):
        """The names of the hands that stand last, in order."""
        longest = self.wait()
        return [name for name in self._hands if self._hands[name][2] == longest]
