"""The fewest looks that a program needs at candidates for their places."""

from stoppoints.checks import is_whole
from stoppoints.codes import Look, Stand, Work
from stoppoints.errors import InvalidCosts, InvalidLimit, InvalidPlace, LimitExceeded
from stoppoints.parts import with_parts
from stoppoints.places import check_places, placed, places_of
from stoppoints.programs import Program
from stoppoints.solving import span_of
from stoppoints.spans import Span, is_size

MOST_CANDIDATES = 10


def most_looks(program):
    """The greatest number of Looks on a walk of the program."""
    functions = {name: counted(program[name]) for name in program.names()}
    return span_of(Program(program.first, functions))


def counted(code):
    """The code with a work of 1 for each Look, and none beside them: its time is the number of the Looks."""
    if isinstance(code, Look):
        return Work(1)
    if isinstance(code, (Work, Stand)):
        return Work(0)
    return with_parts(code, [counted(part) for part in code.parts()])


class Placings:
    """The sets of candidates of a program. A set is known by its bits: bit k stands for the k-th candidate in order."""

    def __init__(self, program, places, *, limit=None):
        check_places(program, places)
        if len(places) > MOST_CANDIDATES:
            raise LimitExceeded(MOST_CANDIDATES)
        if limit is not None and not isinstance(limit, Span):
            raise InvalidLimit(limit)
        # This raises the error if a code becomes too great. No set of fewer places makes a greater one.
        placed(program, places)
        self._program = program
        self._limit = limit
        self._places = [place for place in places_of(program) if place in places]
        self._sets = sets_in_order(len(self._places))
        # The bits of the least good sets, and of the least gaps.
        self._good = []
        self._missed = []
        self._search()

    def _search(self):
        """Finds the least good sets, and the greatest sets that are not good: what these lack are the least gaps."""
        greatest_bad = []
        for bits in self._sets:
            if self._is_known(bits) or any([bits & bad == bits for bad in greatest_bad]):
                continue
            if self._keeps_limit(bits):
                self._good.append(bits)
            else:
                greatest_bad.append(self._grown(bits))
        missed = [self._sets[-1] ^ bad for bad in greatest_bad]
        self._missed = [bits for bits in self._sets if bits in missed]

    def _grown(self, bits):
        """A set that is not good, with all candidates that leave it so."""
        for k in range(len(self._places)):
            more = bits | 1 << k
            if not self._is_known(more) and not self._keeps_limit(more):
                bits = more
        return bits

    def _is_known(self, bits):
        """Whether one of the least good sets that were found is in a set."""
        return any([bits & good == good for good in self._good])

    def _keeps_limit(self, bits):
        span = span_of(placed(self._program, self._set(bits)))
        return not span.is_endless() if self._limit is None else span <= self._limit

    def _set(self, bits):
        return tuple([place for k, place in enumerate(self._places) if bits >> k & 1])

    def places(self):
        """The candidates in order."""
        return list(self._places)

    def __call__(self, places):
        if not isinstance(places, (list, tuple)):
            raise InvalidPlace(places)
        for index, place in enumerate(places):
            if not is_new(self._places, places, index):
                raise InvalidPlace(place)
        return placed(self._program, places)

    def __contains__(self, value):
        if not isinstance(value, (list, tuple)):
            return False
        if not all([is_new(self._places, value, index) for index in range(len(value))]):
            return False
        return self._is_known(sum([1 << self._places.index(place) for place in value]))

    def least(self):
        """The least good sets."""
        return [self._set(bits) for bits in self._good]

    def gaps(self):
        """The least gaps."""
        return [self._set(bits) for bits in self._missed]

    def fewest(self):
        """The least number of places of a good set, None if there is none."""
        return len(self._set(self._good[0])) if self._good else None

    def cheapest(self, costs):
        """The least sum of the costs of a good set, and such a set; None if there is none."""
        check_costs(costs, len(self._places))
        best = None
        for bits in self._good:
            total = sum([cost for k, cost in enumerate(costs) if bits >> k & 1])
            if best is None or total < best[0]:
                best = (total, self._set(bits))
        return best

    def calmest(self):
        """The least number of Looks that walks of a good set have at most, and such a set; None if there is none."""
        best = None
        for places in self.least():
            looks = most_looks(placed(self._program, places))
            if best is None or looks < best[0]:
                best = (looks, places)
        return best


def sets_in_order(many):
    """The bits of all sets of so many things, by their sizes, and then by the first thing at which they differ."""
    found = []
    row = [(0, 0)]
    while row:
        found.extend([bits for bits, _ in row])
        row = [(bits | 1 << k, k + 1) for bits, begin in row for k in range(begin, many)]
    return found


def is_new(candidates, places, index):
    """Whether a candidate stands at an index, and does not stand ahead of it, where there are only candidates."""
    place = places[index]
    if not isinstance(place, tuple) or len(place) != 3:
        return False
    # Only then it is asked whether it is equal to others: True is equal to 1, and who knows what else is.
    if not isinstance(place[0], str) or not isinstance(place[1], str) or not is_whole(place[2]):
        return False
    return place in candidates and place not in places[:index]


def check_costs(costs, many):
    """Refuses what is no list or tuple of so many costs."""
    if not isinstance(costs, (list, tuple)) or len(costs) != many:
        raise InvalidCosts(costs)
    if not all([is_size(cost) for cost in costs]):
        raise InvalidCosts(costs)
