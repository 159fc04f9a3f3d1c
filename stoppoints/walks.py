"""Walks: what a hand does along a program, by choices."""

from stoppoints.checks import is_between
from stoppoints.codes import Either
from stoppoints.errors import InvalidChoice, InvalidNumber
from stoppoints.hands import Hand

MOST_CHOICES = 12
MOST_TURNS = 9


class Walk:
    """The walk of a hand that takes these choices, one behind another."""

    def __init__(self, program, choices):
        hand = Hand(program)
        for index, choice in enumerate(choices):
            if not hand.can_take(choice):
                raise InvalidChoice(index)
            hand.take(choice)
        self._steps = [entry[0] for entry in hand.path]
        self._stretches = stretches_of(hand.path)
        self._rests = rests_of(hand.path)
        self._waits = told_place(hand.place)
        self.time = sum(self._stretches)

    @property
    def done(self):
        """Whether the walk came to the end of the first function."""
        return self._waits is None

    @property
    def waits(self):
        """What has to be chosen where the hand stays, or None."""
        return self._waits

    @property
    def greatest(self):
        """The greatest stretch."""
        return max(self._stretches, key=int)

    def __len__(self):
        return len(self._steps)

    def steps(self):
        """The steps, each a tuple."""
        return list(self._steps)

    def stretches(self):
        """The times of the stretches; the last one is the one at the end."""
        return list(self._stretches)

    def looks(self):
        """The names of the looks, in order."""
        return [step[1] for step in self._steps if step[0] == "look"]

    def rest(self, k):
        """The time from behind the first k steps until the hand stands."""
        if not is_between(k, 0, len(self._steps)):
            raise InvalidNumber(k)
        return self._rests[k]


def stretches_of(path):
    """The times of the stretches of a path."""
    stretches = []
    stretch = 0
    for _, time, stands in path:
        stretch = stretch + time
        if stands:
            stretches.append(stretch)
            stretch = 0
    stretches.append(stretch)
    return stretches


def rests_of(path):
    """The time until the hand stands, from ahead of each step of a path, and from its end."""
    rests = [0]
    for _, time, stands in path[::-1]:
        rests.append(time if stands else time + rests[-1])
    return rests[::-1]


def told_place(place):
    """What `waits` tells of the Either or the Loop where a hand stays."""
    if place is None:
        return None
    if isinstance(place, Either):
        return ("either", len(place.parts()))
    return ("turns", place.low, place.high)


def roads(program, *, most, turns):
    """Yields the choices of all walks that come to the end, in the order of lists."""
    if not is_between(most, 0, MOST_CHOICES):
        raise InvalidNumber(most)
    if not is_between(turns, 0, MOST_TURNS):
        raise InvalidNumber(turns)
    yield from roads_behind(program, [], most, turns)


def roads_behind(program, choices, most, turns):
    """Yields those of the roads that begin with these choices."""
    walk = Walk(program, choices)
    if walk.done:
        yield list(choices)
    elif len(choices) < most:
        for choice in next_choices(walk.waits, turns):
            longer = choices + [choice]
            yield from roads_behind(program, longer, most, turns)


def next_choices(waits, turns):
    """The choices that can be taken where a walk stays, with numbers of turns up to a greatest one."""
    if waits[0] == "either":
        return list(range(waits[1]))
    _, low, high = waits
    last = turns if high is None else min(int(high), turns)
    return list(range(low, last + 1))
