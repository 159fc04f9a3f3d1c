"""Point 16, guarantee (f) of point 3 and stoppoints/floors.py."""

import itertools
import unittest

from stoppoints.errors import InvalidCosts
from stoppoints.floors import check_least, cost_by, floor_by
from stoppoints.places import places_of
from stoppoints.placings import Placings
from stoppoints.programs import Program
from stoppoints.spans import Span
from stoppoints.texts import parse_code

from cases import STRANGE, Case, Same
from samples import generator, random_program, random_rings

ENDLESS = Span.endless()


def program_of(first="f", **texts):
    return Program(first, {name: parse_code(text) for name, text in texts.items()})


def works(*indexes, name="f"):
    return tuple(("work", name, index) for index in indexes)


def row_placings(limit=Span(5)):
    """Good sets of the limit 5: (1 and 2) and (0 and 2) and those that have one of these in them."""
    return Placings(program_of(f="[1; 2; 3; 4]", g="[1; 1]"), works(3, 2, 1, 0), limit=limit)


def hopeless():
    """No set is good, and the empty one is a gap."""
    return Placings(program_of(f="[1; 2; 3]"), works(0, 1), limit=Span(2))


def trivial():
    """Each set is good, and there is no gap."""
    return Placings(program_of(f="[1; 2; 3]"), works(0, 1), limit=Span(6))


def of_ten():
    """Ten works of 1 and a limit of 4: each four of them beside one another are a gap."""
    return Placings(program_of(f="[" + "; ".join(["1"] * 10) + "]"), works(*range(10)), limit=Span(4))


def strict_ten():
    """Only the set of all ten candidates is good, and each set but the empty one is a gap."""
    return Placings(program_of(f="[" + "; ".join(["1"] * 11) + "]"), works(*range(10)), limit=Span(1))


# What is no tuple of the candidates works(0, 1, 2, 3) in order, each once.
NO_SETS = [["work", "f", 2], [("work", "f", 2)], {("work", "f", 2): 1}, {("work", "f", 2)}, ("work", "f", 2),
           works(2, 0, 1), works(3, 2), works(2, 2), works(0, 2, 2), works(2, 4), works(2, -1), works(2) + works(0, name="g"),
           works(2) + (("entry", "f", 0),), works(2) + (("finish", "f", 0),), (("work", "f", 2.0),),
           (("work", "f", True), ("work", "f", 2)), (("work", "f", False), ("work", "f", 1), ("work", "f", 2)),
           (["work", "f", 0], ("work", "f", 2)), (("work", "f"), ("work", "f", 2)), (("work", "f", 0, 0), ("work", "f", 2)),
           works(2) + (None,), works(2) + (works(3),), (works(2),), works(2) + ((),), (Same(), ("work", "f", 2)), Same(),
           ((Same(), "f", 0), ("work", "f", 2)), (("work", Same(), 0), ("work", "f", 2)),
           (("work", "f", Same()), ("work", "f", 2)), ((["work"], "f", 0), ("work", "f", 2)),
           (("work", {}, 0), ("work", "f", 2)), "work", 2, None, True, iter(works(2)), Span(2)]


class PapersTest(Case):
    """What is told alike of the gaps of all three functions."""

    def floor(self, gaps):
        return floor_by(row_placings(), gaps)

    def cost(self, gaps):
        return cost_by(row_placings(), [5] * 4, [(gap, 1) for gap in gaps])

    def least(self, gaps):
        # Of these gaps two alone show the least sets.
        return check_least(row_placings(), row_placings().least(), [works(2), works(0, 1), *gaps])

    def test_what_is_no_gap(self):
        self.assertEqual(self.floor([works(2)]), Span(1))
        self.assertEqual(self.cost([works(2)]), 1)
        self.assertIs(self.least([works(2)]), True)
        for value in NO_SETS + [(), works(0), works(1), works(3), works(0, 3), works(1, 3)]:
            for gaps in ([value], [works(2), value], [value, works(2)], (works(0, 1), value)):
                self.assertIsNone(self.floor(gaps))
                self.assertIsNone(self.cost(gaps))
                self.assertIs(self.least(gaps), False)

    def test_all_gaps_that_are_not_least(self):
        for gap in [works(0, 2), works(0, 1, 2), works(0, 1, 3), works(2, 3), works(0, 1, 2, 3)]:
            self.assertEqual(self.floor((gap,)), Span(1))
            self.assertEqual(self.cost([gap]), 1)
            self.assertIs(self.least((gap, gap)), True)

    def test_what_is_no_list_or_tuple_of_gaps(self):
        for value in [None, True, False, 0, 5, "", "work", b"", {}, {works(2): 1}, set(), {works(2)}, object(), Same(),
                      Span(0), works(2), iter([]), iter([works(2)]), parse_code("5"), row_placings()]:
            self.assertIsNone(floor_by(row_placings(), value))
            self.assertIsNone(cost_by(row_placings(), [5] * 4, value))
            self.assertIs(check_least(row_placings(), row_placings().least(), value), False)

    def test_of_other_placings(self):
        # Gaps of one placings are none of another one.
        self.assertIsNone(floor_by(row_placings(Span(6)), [works(0, 1)]))
        self.assertIsNone(floor_by(trivial(), [works(0)]))
        self.assertIsNone(floor_by(trivial(), [works(0, 1)]))
        self.assertIsNone(cost_by(trivial(), [1, 1], [(works(0, 1), 0)]))
        self.assertEqual(floor_by(hopeless(), [works(0)]), Span(1))

    def test_nothing_is_changed(self):
        placings, gaps, sets, costs = row_placings(), [works(2), works(0, 1), works(2)], [works(0, 2), works(1, 2)], [1] * 4
        shares = [(works(2), 1)]
        for _ in range(2):
            self.assertEqual(floor_by(placings=placings, gaps=gaps), Span(2))
            self.assertEqual(cost_by(placings=placings, costs=costs, shares=shares), 1)
            self.assertIs(check_least(placings=placings, sets=sets, gaps=gaps), True)
        self.assertEqual(gaps, [works(2), works(0, 1), works(2)])
        self.assertEqual((sets, costs, shares), ([works(0, 2), works(1, 2)], [1] * 4, [(works(2), 1)]))
        self.assertEqual(placings.least(), sets)


class FloorTest(Case):
    def check(self, placings, gaps, wanted):
        for given in (gaps, tuple(gaps), gaps + gaps, gaps[::-1]):
            self.same(floor_by(placings, given), wanted)
            if not wanted.is_endless():
                self.assertIs(type(floor_by(placings, given).time), int)

    def test_no_gaps(self):
        self.check(row_placings(), [], Span(0))
        self.check(trivial(), [], Span(0))
        self.check(hopeless(), [], Span(0))

    def test_gaps(self):
        self.check(row_placings(), [works(2)], Span(1))
        self.check(row_placings(), [works(2), works(0, 1)], Span(2))
        self.check(row_placings(), [works(0, 1, 2), works(0, 1)], Span(1))
        self.check(row_placings(Span(4)), [works(1), works(2)], Span(2))
        self.check(row_placings(Span(4)), [works(1), works(2), works(1, 2)], Span(2))

    def test_an_empty_gap(self):
        self.check(hopeless(), [()], ENDLESS)
        self.check(hopeless(), [works(0), ()], ENDLESS)
        self.check(hopeless(), [works(0), works(1)], Span(2))
        self.check(hopeless(), [works(0, 1), works(1)], Span(1))

    def test_no_candidates(self):
        program = program_of(f="0..* 1")
        self.check(Placings(program, []), [], Span(0))
        self.check(Placings(program, []), [()], ENDLESS)
        self.assertIsNone(floor_by(Placings(program, [], limit=ENDLESS), [()]))

    def test_the_place_of_the_most_gaps_may_be_in_no_smallest_set(self):
        gaps = [works(0, 1), works(0, 1, 5), works(1, 6), works(0, 2), works(0, 2, 5), works(2, 7)]
        self.check(strict_ten(), gaps, Span(2))

    def test_ten_candidates(self):
        placings = of_ten()
        self.check(placings, [works(*range(k, k + 4)) for k in range(6)], Span(2))
        self.check(placings, [works(0, 1, 2, 3), works(4, 5, 6, 7)], Span(2))
        self.check(placings, [works(0, 1, 2, 3), works(3, 4, 5, 6)], Span(1))
        self.check(strict_ten(), [works(k) for k in range(10)], Span(10))
        self.check(strict_ten(), [works(0, k) for k in range(1, 10)] + [works(9)], Span(2))
        self.check(strict_ten(), all_sets(works(*range(10)))[1:], Span(10))


class CostTest(Case):
    def check(self, wanted, shares, costs=(3, 4, 5, 6), placings=None):
        placings = placings or row_placings()
        for given in (list(shares), tuple(shares), list(shares)[::-1]):
            self.same(cost_by(placings, list(costs), given), wanted)
            self.same(cost_by(placings, tuple(costs), given), wanted)

    def test_no_shares(self):
        self.check(0, [])
        self.check(0, [], costs=(0, 0, 0, 0))
        self.check(0, [], costs=(1, 1), placings=hopeless())

    def test_sums_at_the_cost_and_above_it(self):
        self.check(5, [(works(2), 5)])
        self.check(None, [(works(2), 6)])
        self.check(8, [(works(2), 5), (works(0, 1), 3)])
        self.check(None, [(works(2), 5), (works(0, 1), 4)])
        self.check(5, [(works(2), 3), (works(0, 1, 2), 2)])
        self.check(None, [(works(2), 3), (works(0, 1, 2), 3)])
        self.check(None, [(works(0, 1, 3), 4)], costs=(3, 4, 5, 9))
        self.check(4, [(works(0, 1, 3), 4)], costs=(4, 4, 0, 4))
        self.check(None, [(works(0, 1, 3), 4)], costs=(4, 4, 0, 3))

    def test_the_same_gap_twice(self):
        self.check(5, [(works(2), 2), (works(2), 3)])
        self.check(None, [(works(2), 3), (works(2), 3)])
        self.check(4, [(works(2), 2), (works(2), 2)], costs=(0, 0, 4, 0))

    def test_amounts(self):
        self.check(0, [(works(2), 0), (works(0, 1), 0)], costs=(0, 0, 0, 0))
        self.check(10 ** 60, [(works(2), 10 ** 60)], costs=(0, 0, 10 ** 60, 0))
        self.check(None, [(works(2), 10 ** 60)], costs=(0, 0, 10 ** 60 - 1, 0))
        self.check(2 * 10 ** 59, [(works(2), 10 ** 59), (works(0, 1), 10 ** 59)], costs=[10 ** 59] * 4)
        for amount in STRANGE + [-1, -10 ** 30, Span(1), Same(), 1.0]:
            self.check(None, [(works(2), amount)])
            self.check(None, [(works(0, 1), 1), (works(2), amount)])

    def test_an_empty_gap(self):
        # No candidate has a place of it, and no set is good: any amount is right.
        self.check(7, [((), 7)], costs=(0, 0), placings=hopeless())
        self.check(10 ** 60, [((), 10 ** 60), (works(0), 0)], costs=(0, 0), placings=hopeless())
        self.check(None, [((), 7), (works(0), 1)], costs=(0, 0), placings=hopeless())

    def test_what_is_no_share(self):
        for value in [works(2), (works(2),), (works(2), 1, 1), [works(2), 1], (1, works(2)), (None, 1), None, 5, "ab", (), {},
                      {works(2): 1}, Same(), (Same(), 1), ((works(2), 1),), ([("work", "f", 2)], 1), (works(3, 2), 1),
                      (works(2, 2), 1), ((), 0), (works(0), 0)]:
            self.check(None, [value])
            self.check(None, [(works(2), 1), value])
            self.check(None, [value, (works(2), 1)])

    def test_costs_that_are_none(self):
        for value in STRANGE + [5, [1, 2, 3], [1, 2, 3, 4, 5], [1, 2, 3, -1], [1, 2, 3, True], [1, 2, 3, None],
                                {0: 1, 1: 1, 2: 1, 3: 1}, "1234", Span(1)]:
            for shares in ([], [(works(2), 1)], [(works(2), -1)], None, "no", [(works(0), 1)]):
                self.refuses(InvalidCosts, {"value": value}, cost_by, row_placings(), value, shares)
        self.refuses(InvalidCosts, {"value": [1]}, cost_by, hopeless(), [1], [])

    def test_no_good_set_costs_less(self):
        placings, costs = row_placings(), [2, 3, 4, 1]
        self.check(6, [(works(2), 4), (works(0, 1), 2)], costs=costs)
        self.assertEqual(placings.cheapest(costs), (6, works(0, 2)))


class LeastTest(Case):
    def check(self, wanted, sets, gaps, placings=None):
        placings = placings or row_placings()
        for given in (list(sets), tuple(sets), list(sets)[::-1]):
            for other in (list(gaps), tuple(gaps), list(gaps) + list(gaps)):
                self.assertIs(check_least(placings, given, other), wanted)

    def test_the_papers_of_placings(self):
        for placings in [row_placings(), hopeless(), trivial(), of_ten(), row_placings(Span(7)), row_placings(Span(10))]:
            self.check(True, placings.least(), placings.gaps(), placings)

    def test_sets(self):
        gaps = [works(2), works(0, 1)]
        self.check(True, [works(0, 2), works(1, 2)], gaps)
        self.check(False, [works(0, 2)], gaps)
        self.check(False, [works(1, 2)], gaps)
        self.check(False, [], gaps)
        self.check(False, [works(0, 2), works(1, 2), works(0, 1, 2)], gaps)
        self.check(False, [works(0, 2), works(1, 2), works(0, 2, 3)], gaps)
        self.check(False, [works(0, 2), works(1, 2), works(1, 2)], gaps)
        self.check(False, [works(0, 2), works(1, 2, 3)], gaps)
        self.check(False, [works(0, 1, 2)], gaps)
        self.check(False, [works(0, 2), works(1, 2), works(2, 3)], gaps)
        self.check(False, [works(0, 2), works(1, 2), ()], gaps)

    def test_gaps(self):
        sets = [works(0, 2), works(1, 2)]
        self.check(True, sets, [works(2), works(0, 1), works(0, 1, 2), works(2)])
        self.check(False, sets, [works(2)])
        self.check(False, sets, [works(0, 1)])
        self.check(False, sets, [])
        self.check(False, sets, [works(2), works(0, 1, 2)])
        self.check(False, sets, [works(2), works(0, 1, 3)])
        self.check(False, sets, [works(2), works(0, 1), works(1)])

    def test_what_is_no_set(self):
        gaps = [works(2), works(0, 1)]
        for value in NO_SETS:
            self.check(False, [works(0, 2), works(1, 2), value], gaps)
            self.check(False, [value, works(1, 2)], gaps)
        self.check(False, [works(2, 0), works(1, 2)], gaps)
        self.check(False, [list(works(0, 2)), works(1, 2)], gaps)
        for value in [None, True, 0, "", "work", {}, {works(0, 2): 1, works(1, 2): 1}, {works(0, 2), works(1, 2)}, Same(),
                      Span(0), iter([works(0, 2), works(1, 2)]), works(0, 2), object()]:
            self.assertIs(check_least(row_placings(), value, gaps), False)

    def test_no_set_is_good(self):
        self.check(True, [], [()], hopeless())
        self.check(True, [], [(), works(0)], hopeless())
        self.check(False, [], [works(0)], hopeless())
        self.check(False, [], [], hopeless())
        self.check(False, [()], [], hopeless())
        self.check(False, [works(0, 1)], [()], hopeless())

    def test_the_empty_set_is_good(self):
        self.check(True, [()], [], trivial())
        self.check(False, [], [], trivial())
        self.check(False, [()], [()], trivial())
        self.check(False, [(), works(0)], [], trivial())
        self.check(False, [works(0)], [], trivial())
        self.check(False, [(), ()], [], trivial())

    def test_ten_candidates(self):
        placings = of_ten()
        sets, gaps = placings.least(), placings.gaps()
        for k in range(len(sets)):
            self.assertIs(check_least(placings, sets[:k] + sets[k + 1:], gaps), False)
        for k in range(len(gaps)):
            self.assertIs(check_least(placings, sets, gaps[:k] + gaps[k + 1:]), False)
        good = [chosen for chosen in all_sets(works(*range(10))) if chosen in placings]
        self.assertIs(check_least(placings, good, gaps), False)


def all_sets(places):
    return [chosen for many in range(len(places) + 1) for chosen in itertools.combinations(places, many)]


class AllSetsTest(Case):
    """Papers by chance, beside what all sets of candidates say."""

    def test_by_trying_all_sets(self):
        rng = generator(161)
        self.right = {"floor": 0, "cost": 0, "least": 0, "wrong": 0}
        for k in range(160):
            program = random_rings(rng) if k % 3 else Program(*random_program(rng))
            every = places_of(program)
            places = rng.sample(every, min(len(every), rng.choice([0, 1, 2, 3, 4, 5])))
            placings = Placings(program, places, limit=rng.choice([None, Span(0), Span(2), Span(5), Span(9)]))
            self.compare(rng, placings, all_sets(placings.places()))
        self.assertGreater(min(self.right.values()), 30)

    def compare(self, rng, placings, sets):
        good = [chosen for chosen in sets if chosen in placings]
        rest = {chosen: tuple(place for place in placings.places() if place not in chosen) for chosen in sets}
        all_gaps = [chosen for chosen in sets if rest[chosen] not in good]
        for _ in range(8):
            pool = all_gaps if all_gaps and rng.random() < 0.8 else sets
            gaps = [rng.choice(pool) for _ in range(rng.choice([0, 1, 2, 3, 4]))]
            self.floor(placings, sets, gaps, all_gaps)
            self.cost(rng, placings, sets, gaps, all_gaps, good)
        for _ in range(12):
            some = placings.least() if rng.random() < 0.7 else rng.sample(sets, min(len(sets), 2))
            gaps = placings.gaps() if rng.random() < 0.6 else rng.sample(all_gaps, min(len(all_gaps), 3))
            if some and rng.random() < 0.3:
                some = some[1:]
            self.least(placings, sets, some, gaps, good, all_gaps)

    def floor(self, placings, sets, gaps, all_gaps):
        if not all(gap in all_gaps for gap in gaps):
            self.assertIsNone(floor_by(placings, gaps))
            return
        meeting = [len(chosen) for chosen in sets if all(set(gap) & set(chosen) for gap in gaps)]
        self.assertEqual(floor_by(placings, gaps), Span(min(meeting)) if meeting else ENDLESS)
        if placings.fewest() is not None:
            self.assertLessEqual(floor_by(placings, gaps), Span(placings.fewest()))
        self.right["floor"] += 1

    def cost(self, rng, placings, sets, gaps, all_gaps, good):
        shares = [(gap, rng.choice([0, 1, 1, 2])) for gap in gaps]
        costs = [rng.choice([0, 1, 2, 3, 5]) for _ in placings.places()]
        sums = [sum(amount for gap, amount in shares if place in gap) for place in placings.places()]
        wanted = None
        if all(gap in all_gaps for gap in gaps) and all(total <= cost for total, cost in zip(sums, costs)):
            wanted = sum(amount for _, amount in shares)
            if good:
                self.assertLessEqual(wanted, placings.cheapest(costs)[0])
            self.right["cost"] += 1
        self.assertEqual(cost_by(placings, costs, shares), wanted)

    def least(self, placings, sets, some, gaps, good, all_gaps):
        right = all(chosen in good for chosen in some) and all(gap in all_gaps for gap in gaps)
        right = right and not any(set(one) < set(other) for one in some for other in some)
        right = right and len(set(some)) == len(some)
        right = right and all(any(set(one) <= set(chosen) for one in some) or any(not set(gap) & set(chosen) for gap in gaps)
                              for chosen in sets)
        self.assertIs(check_least(placings, some, gaps), right)
        if right:
            self.assertEqual(sorted(some), sorted(placings.least()))
        self.right["least" if right else "wrong"] += 1


if __name__ == "__main__":
    unittest.main()
