"""Points 3 (f) and 15 and stoppoints/placings.py."""

import itertools
import unittest

from stoppoints.codes import Loop, Work, pieces_of
from stoppoints.errors import InvalidCode, InvalidCosts, InvalidLimit, InvalidPlace, LimitExceeded
from stoppoints.places import placed, places_of
from stoppoints.placings import Placings, most_looks
from stoppoints.programs import Program
from stoppoints.solving import span_of
from stoppoints.spans import Span
from stoppoints.texts import parse_code

from cases import STRANGE, STRANGER, TOP, Case, Same, nested, of_size
from samples import choices_by_chance, generator, random_code, random_program, random_rings

ENDLESS = Span.endless()


def program_of(first="f", **texts):
    return Program(first, {name: parse_code(text) for name, text in texts.items()})


def works(*indexes, name="f"):
    return tuple(("work", name, index) for index in indexes)


class MostLooksTest(Case):
    def check(self, wanted, first="f", **texts):
        self.assertEqual(most_looks(program_of(first, **texts)), ENDLESS if wanted == "endless" else Span(wanted))

    def test_no_walk_has_a_look(self):
        for text in ["[]", "[5; !]", "0..* [5; !]", "[return; ?a]", "0..0 ?a", "[call g; ?a]", "{5 | call f}"]:
            self.check(0, f=text, g="[5; call g]")

    def test_each_walk_has_one(self):
        self.check(1, f="?a")
        self.check(3, f="[?a; 5; ?b:7; !; ?a]")
        self.check(2, f="{?a | [?b; ?c] | []}")
        self.check(1, f="[?a; return; ?b]")
        self.check(2, f="[?a:9; 1000; ?b:100]")

    def test_loops(self):
        self.check(6, f="3..3 [?a; ?b]")
        self.check(5, f="2..5 ?a")
        self.check(0, f="0..0 ?a")
        self.check(TOP ** 2, f=f"0..{TOP} {TOP}..{TOP} ?a")
        self.check(3, f="5..9 [?a; ?b; ?c; {leave | return}; ?d]")

    def test_looks_on_ways_out_of_a_loop(self):
        self.check(1, f="0..* {[] | [?a; leave]}")
        self.check(2, f="0..* {1 | [?a; ?b; return]}")
        self.check(3, f="[0..* {1 | [?a; ?b; leave]}; ?c]")
        self.check(12, f="0..10 {?c | [?a; ?b; ?d; leave]}")

    def test_any_number(self):
        self.check("endless", f="0..* ?a")
        self.check("endless", f="[1; 5..* {1 | ?a}]")
        self.check("endless", f="0..* [?a; {[] | leave}]")
        self.check("endless", f="0..* [0..1 ?a; !]")

    def test_calls_and_rings(self):
        self.check(6, f="[call g; ?a; call g; ?b]", g="{1 | [?a; ?c]}")
        self.check("endless", f="{[] | [?a; call f]}")
        self.check("endless", f="{[] | [call f; ?a]}")
        self.check("endless", f="[?a; call f]")
        self.check(0, f="[call f; ?a]")
        self.check(1, f="{?a | [1; call g]}", g="[2; call f]")
        self.check("endless", f="[{[] | call g}; ?a]", g="call f")
        self.check(2, f="[?a; ?b; return; call f]")

    def test_functions_that_are_not_reached(self):
        self.check(1, f="?a", g="0..* ?a", h="[?a; call h]")

    def test_those_that_are_placed(self):
        program = program_of(f="[2..3 [1; ?a; 2]; 4]")
        self.assertEqual(most_looks(program=program), Span(3))
        self.assertEqual(most_looks(placed(program, works(1))), Span(6))
        self.assertEqual(most_looks(placed(program, places_of(program))), Span(15))

    def test_against_all_walks(self):
        rng = generator(91)
        compared = 0
        for _ in range(400):
            code = random_code(rng, 3)
            if not any(isinstance(piece, Loop) and piece.high is None for piece in pieces_of(code)):
                program = Program("f", {"f": code})
                self.assertEqual(most_looks(program), Span(self.most(program, [])))
                compared += 1
        self.assertGreater(compared, 200)

    def most(self, program, choices):
        walk = program(choices)
        if walk.done:
            return len(walk.looks())
        low, high = (0, walk.waits[1] - 1) if walk.waits[0] == "either" else walk.waits[1:]
        return max([len(walk.looks())] + [self.most(program, choices + [k]) for k in range(low, high + 1)])

    def test_no_walk_has_more(self):
        rng = generator(92)
        for k in range(300):
            program = random_rings(rng) if k % 2 else Program(*random_program(rng))
            choices = choices_by_chance(rng, program, 12)
            if choices is not None:
                self.assertLessEqual(Span(len(program(choices).looks())), most_looks(program))


class ErrorsTest(Case):
    program = program_of(f="[" + "; ".join("12345") + "; 0..2 6]", g="[1; 2; 3; 4; return]")

    def test_places(self):
        for value in [None, True, 5, "", "work", {}, {("work", "f", 0): 1}, {("work", "f", 0)}, Work(1), iter([])]:
            self.refuses(InvalidPlace, {"value": value}, Placings, self.program, value, limit="no")
        for value in STRANGE + [5, ("work", "f", 6), ("work", "f", True), ["work", "f", 0], ("entry", "h", 0)]:
            self.refuses(InvalidPlace, {"value": value}, Placings, self.program,
                         [("work", "f", 1), value, ("no",)], limit="no")
        self.refuses(InvalidPlace, {"value": ("work", "f", 1)}, Placings, self.program, works(1, 0, 1), limit="no")

    def test_places_ahead_of_their_number(self):
        every = places_of(self.program)
        self.refuses(InvalidPlace, {"value": every[3]}, Placings, self.program, every[:11] + [every[3]], limit="no")

    def test_more_than_ten(self):
        every = places_of(self.program)
        self.assertEqual(len(Placings(self.program, every[:10]).places()), 10)
        self.refuses(LimitExceeded, {"limit": 10}, Placings, self.program, every[:11])
        self.refuses(LimitExceeded, {"limit": 10}, Placings, self.program, every, limit="no")

    def test_limits(self):
        for value in STRANGER + [0, 5, -1, "endless", Work(1)]:
            self.refuses(InvalidLimit, {"value": value}, Placings, self.program, works(0), limit=value)
        program = Program("f", {"f": of_size(199)})
        self.refuses(InvalidLimit, {"value": 5}, Placings, program, works(0, 1), limit=5)
        with self.assertRaises(TypeError):
            Placings(self.program, works(0), None)

    def test_codes_that_become_too_great(self):
        program = Program("f", {"f": of_size(198)})
        self.assertEqual(len(Placings(program, works(0)).places()), 1)
        self.refuses(InvalidCode, {"value": None}, Placings, program, works(0, 1))
        program = Program("f", {"f": nested(24), "g": Work(1)})
        self.refuses(InvalidCode, {"value": None}, Placings, program, [("work", "f", 0), ("entry", "f", 0)], limit=ENDLESS)


class PlacingsTest(Case):
    program = program_of(f="[1; 2; 3; 4]", g="0..* 5")

    def test_places_in_order(self):
        given = [("back", "g", 0), ("work", "f", 3), ("finish", "f", 0), ("entry", "g", 0), ("work", "f", 1)]
        placings = Placings(self.program, given)
        wanted = [("work", "f", 1), ("work", "f", 3), ("finish", "f", 0), ("entry", "g", 0), ("back", "g", 0)]
        self.assertEqual(placings.places(), wanted)
        self.assertEqual(given[0], ("back", "g", 0))
        given.clear()
        placings.places().clear()
        self.assertEqual(placings.places(), wanted)
        self.assertEqual(Placings(limit=None, places=tuple(wanted[::-1]), program=self.program).places(), wanted)
        self.assertEqual(Placings(self.program, []).places(), [])

    def test_the_program_with_looks(self):
        placings = Placings(self.program, works(0, 1, 2))
        for chosen in [(), [], works(2), works(2, 0), list(works(0, 1, 2))]:
            self.assertEqual(placings(chosen), placed(self.program, chosen))
        self.assertEqual(placings(places=works(1)), placed(self.program, works(1)))

    def test_wrong_candidates(self):
        placings = Placings(self.program, works(0, 1, 2))
        for value in STRANGE + [5, ("work", "f", 3), ("work", "f", True), ("work", "f", False), ["work", "f", 0],
                                ("entry", "f", 0), ("work", "g", 0), ("work", "f"), ("work", "f", 0, 0), Span(1)]:
            self.refuses(InvalidPlace, {"value": value}, placings, [value])
            self.refuses(InvalidPlace, {"value": value}, placings, (("work", "f", 1), value, ("no",)))
        self.refuses(InvalidPlace, {"value": ("work", "f", 1)}, placings, works(1, 0, 1, 0))
        for value in ["work", {}, None]:
            self.refuses(InvalidPlace, {"value": value}, placings, value)

    def test_in(self):
        placings = Placings(self.program, works(0, 1, 2, 3), limit=Span(5))
        for good in [works(1, 2), works(2, 1), works(0, 2, 1), works(3, 2, 1, 0), works(1, 2, 3)]:
            self.assertIs(good in placings, True)
            self.assertIs(list(good) in placings, True)
        for value in [(), [], works(1), works(1, 3), works(1, 2, 2), works(2, 1, 2), works(1, 2) + (("entry", "f", 0),),
                      works(1, 2) + works(0, name="g"), (["work", "f", 1], ("work", "f", 2)),
                      (("work", "f", True), ("work", "f", 2)), (("work", "f", 1, 0), ("work", "f", 2)),
                      {("work", "f", 1): 1, ("work", "f", 2): 2}, {("work", "f", 1), ("work", "f", 2)},
                      "work", 5, Span(5), Work(1), self.program, works(1, 2) + (None,), (works(1, 2),)] + STRANGE:
            self.assertIs(value in placings, False)

    def test_in_asks_no_value_whether_it_is_equal(self):
        placings = Placings(self.program, works(0, 1, 2, 3), limit=Span(5))
        for value in [Same(), (Same(), Same()), [("work", "f", 1), Same()], [(Same(), "f", 1), ("work", "f", 2)],
                      [("work", Same(), 1), ("work", "f", 2)], [("work", "f", Same()), ("work", "f", 2)]]:
            self.assertIs(value in placings, False)
            self.assertIs(value in Placings(self.program, works(0, 1, 2, 3), limit=ENDLESS), False)

    def test_in_takes_each_candidate_once(self):
        placings = Placings(self.program, works(0, 1, 2, 3), limit=ENDLESS)
        for value in [works(1, 1), works(0, 1, 2, 3, 0), list(works(2, 2)), works(0, 0, 0)]:
            self.assertIs(value in placings, False)
        self.assertIs(works(3, 1) in placings, True)

    def test_lists_are_new(self):
        placings = Placings(self.program, works(0, 1, 2, 3), limit=Span(5))
        least, gaps = placings.least(), placings.gaps()
        placings.least().clear()
        placings.gaps().clear()
        self.assertEqual((placings.least(), placings.gaps()), (least, gaps))
        for found in least + gaps:
            self.assertIs(type(found), tuple)


class LeastTest(Case):
    def check(self, program, places, limit, least, gaps):
        placings = Placings(program, places, limit=limit)
        self.assertEqual(placings.least(), least)
        self.assertEqual(placings.gaps(), gaps)
        self.assertEqual(placings.fewest(), len(least[0]) if least else None)
        return placings

    def test_a_row(self):
        program = program_of(f="[1; 2; 3; 4]")
        places = works(3, 2, 1, 0)
        self.check(program, places, Span(10), [()], [])
        self.check(program, places, Span(9), [works(0), works(1), works(2)], [works(0, 1, 2)])
        self.check(program, places, Span(7), [works(1), works(2)], [works(1, 2)])
        self.check(program, places, Span(6), [works(2)], [works(2)])
        self.check(program, places, Span(5), [works(0, 2), works(1, 2)], [works(2), works(0, 1)])
        self.check(program, places, Span(4), [works(1, 2)], [works(1), works(2)])
        self.check(program, places, Span(3), [], [()])
        self.check(program, places, Span(0), [], [()])

    def test_limit_of_a_set_and_one_less(self):
        program = program_of(f="[3; 5; 7]")
        self.check(program, works(0, 1), Span(8), [works(1)], [works(1)])
        self.check(program, works(0, 1), Span(7), [works(0, 1)], [works(0), works(1)])
        self.check(program, works(0, 1), Span(6), [], [()])

    def test_no_limit(self):
        program = program_of(f="[9; 0..* [1; 0..* {2 | call g}]; 9]", g="{3 | [4; call g]}")
        self.check(program, [("back", "f", 0), ("back", "f", 1), ("entry", "g", 0), ("work", "g", 1)], None,
                   [(("back", "f", 0), ("back", "f", 1), ("entry", "g", 0)),
                    (("back", "f", 0), ("back", "f", 1), ("work", "g", 1))],
                   [(("back", "f", 0),), (("back", "f", 1),), (("entry", "g", 0), ("work", "g", 1))])

    def test_endless_limit(self):
        program = program_of(f="0..* 1")
        self.check(program, [("back", "f", 0)], ENDLESS, [()], [])
        self.check(program, [("back", "f", 0)], None, [(("back", "f", 0),)], [(("back", "f", 0),)])

    def test_no_set_is_good(self):
        program = program_of(f="[0..* 1; call g]", g="[1; call g]")
        placings = self.check(program, [("back", "f", 0), ("work", "f", 0), ("finish", "g", 0)], None, [], [()])
        self.assertIsNone(placings.cheapest([1, 2, 3]))
        self.assertIsNone(placings.calmest())
        self.assertNotIn(tuple(placings.places()), placings)
        self.refuses(InvalidCosts, {"value": [1, 2]}, placings.cheapest, [1, 2])

    def test_the_empty_set_is_good(self):
        program = program_of(f="[0..* [1; ?a]; !]")
        placings = self.check(program, [("back", "f", 0), ("work", "f", 0)], None, [()], [])
        self.assertEqual(placings.cheapest([0, 0]), (0, ()))
        self.assertEqual(placings.calmest(), (ENDLESS, ()))
        self.assertIn((), placings)

    def test_no_candidates(self):
        program = program_of(f="0..* 1")
        placings = self.check(program, [], None, [], [()])
        self.assertIsNone(placings.cheapest([]))
        self.assertNotIn((), placings)
        placings = self.check(program, (), ENDLESS, [()], [])
        self.assertEqual(placings.cheapest(()), (0, ()))
        self.assertIn([], placings)

    def test_the_order_of_sets(self):
        # A loop for each set: any look in it will do.
        program = program_of(f="[0..* [1; 1]; 0..* [1; 1; 1]]")
        self.check(program, works(4, 3, 2, 1, 0), None,
                   [works(a, b) for a in (0, 1) for b in (2, 3, 4)], [works(0, 1), works(2, 3, 4)])
        program = program_of(f="{[0..* 1; return] | 0..* [1; call g]}", g="{1 | [0..* 1; 1]}")
        self.check(program, [("work", "g", 2), ("work", "f", 1), ("back", "g", 0), ("back", "f", 0), ("entry", "g", 0)],
                   None,
                   [(("work", "f", 1), ("back", "f", 0), ("back", "g", 0)),
                    (("back", "f", 0), ("entry", "g", 0), ("back", "g", 0))],
                   [(("back", "f", 0),), (("back", "g", 0),), (("work", "f", 1), ("entry", "g", 0))])

    def test_ten_candidates(self):
        program = program_of(f="[" + "; ".join(["1"] * 10) + "]")
        placings = Placings(program, works(*range(10)), limit=Span(4))
        self.assertEqual(placings.fewest(), 2)
        self.assertEqual(placings.least(), self.all_least(program, works(*range(10)), Span(4)))
        self.assertEqual(placings.gaps(), [works(*range(k, k + 4)) for k in range(6)])
        self.check(program, works(*range(10)), Span(1), [works(*range(9))], [works(k) for k in range(9)])

    def all_least(self, program, places, limit):
        return least_of(all_sets(places), lambda chosen: span_of(placed(program, chosen)) <= limit)


def all_sets(places):
    """All sets, by their sizes and then by the first place at which they differ."""
    return [chosen for many in range(len(places) + 1) for chosen in itertools.combinations(places, many)]


def least_of(sets, good):
    """Those that are good, and in which no other good one is."""
    right = [chosen for chosen in sets if good(chosen)]
    return [one for one in right if not any(set(other) < set(one) for other in right)]


class AllSetsTest(Case):
    def test_by_trying_all_sets(self):
        rng = generator(93)
        found = {"none": 0, "empty": 0, "several": 0}
        for k in range(220):
            program = random_rings(rng) if k % 3 else Program(*random_program(rng))
            every = places_of(program)
            places = rng.sample(every, min(len(every), rng.choice([0, 1, 3, 4, 5, 6])))
            given, candidates = list(places), [place for place in every if place in places]
            spans = {chosen: span_of(placed(program, chosen)) for chosen in all_sets(candidates)}
            limit = rng.choice([None, None, ENDLESS, Span(0), Span(3), rng.choice(list(spans.values()))])
            if limit is not None and not limit.is_endless() and limit.time and rng.random() < 0.3:
                limit = Span(limit.time - 1)
            placings = Placings(program, places, limit=limit)
            self.assertEqual(places, given)
            self.compare(program, placings, candidates, spans, limit, rng)
            found["none"] += placings.least() == []
            found["empty"] += placings.least() == [()]
            found["several"] += len(placings.least()) > 1
        self.assertGreater(min(found.values()), 10)

    def compare(self, program, placings, candidates, spans, limit, rng):
        def good(chosen):
            return not spans[chosen].is_endless() if limit is None else spans[chosen] <= limit

        def is_gap(chosen):
            return not good(tuple(place for place in candidates if place not in chosen))

        sets = all_sets(candidates)
        least = least_of(sets, good)
        self.assertEqual(placings.least(), least)
        self.assertEqual(placings.gaps(), least_of(sets, is_gap))
        self.assertEqual(placings.fewest(), len(least[0]) if least else None)
        for chosen in rng.sample(sets, min(len(sets), 20)):
            self.assertIs(rng.sample(chosen, len(chosen)) in placings, good(chosen))
        costs = [rng.choice([0, 0, 1, 1, 2, 5]) for _ in candidates]
        self.assertEqual(placings.cheapest(costs), self.cheapest(sets, least, good, dict(zip(candidates, costs))))
        self.assertEqual(placings.calmest(), self.calmest(program, sets, least, good))

    def cheapest(self, sets, least, good, costs):
        sums = {chosen: sum(costs[place] for place in chosen) for chosen in sets if good(chosen)}
        if not sums:
            return None
        return min(sums.values()), [chosen for chosen in least if sums[chosen] == min(sums.values())][0]

    def calmest(self, program, sets, least, good):
        looks = {chosen: most_looks(placed(program, chosen)) for chosen in sets if good(chosen)}
        if not looks:
            return None
        fewest = [span for span in looks.values() if all(span <= other for other in looks.values())][0]
        return fewest, [chosen for chosen in least if looks[chosen] == fewest][0]


class CostsTest(Case):
    def setUp(self):
        self.program = program_of(f="[1; 0..3 1; 1; 1]")
        # A set is good with the work in the loop, with the back of the loop, or with the works ahead of it and behind it.
        self.placings = Placings(self.program, [("back", "f", 0), *works(0, 1, 2)], limit=Span(4))

    def test_least_sets(self):
        self.assertEqual(self.placings.places(), [*works(0, 1, 2), ("back", "f", 0)])
        self.assertEqual(self.placings.least(), [works(1), (("back", "f", 0),), works(0, 2)])

    def test_cheapest(self):
        back = (("back", "f", 0),)
        self.assertEqual(self.placings.cheapest([1, 1, 1, 1]), (1, works(1)))
        self.assertEqual(self.placings.cheapest([1, 2, 1, 1]), (1, back))
        self.assertEqual(self.placings.cheapest((1, 5, 1, 4)), (2, works(0, 2)))
        self.assertEqual(self.placings.cheapest(costs=[9, 4, 9, 4]), (4, works(1)))
        self.assertEqual(self.placings.cheapest([2, 4, 2, 4]), (4, works(1)))
        self.assertEqual(self.placings.cheapest([2, 5, 2, 4]), (4, back))
        self.assertEqual(self.placings.cheapest([0, 0, 0, 0]), (0, works(1)))
        self.assertEqual(self.placings.cheapest([0, 10 ** 60, 0, 0]), (0, back))
        self.assertEqual(self.placings.cheapest([10 ** 40] * 4), (10 ** 40, works(1)))

    def test_calmest(self):
        # The loop has three turns: a look in it is met three times, those beside it once each.
        self.assertEqual(self.placings.calmest(), (Span(2), works(0, 2)))
        placings = Placings(self.program, works(1, 2), limit=Span(4))
        self.assertEqual(placings.calmest(), (Span(3), works(1)))

    def test_calmest_counts_the_looks_of_the_program(self):
        program = program_of(f="[2..2 ?a; 0..* [1; {1 | leave | return}]]")
        placings = Placings(program, [*works(0, 1), ("back", "f", 0)])
        self.assertEqual(placings.calmest(), (ENDLESS, works(0)))
        program = program_of(f="[2..2 ?a; 0..5 [1; {1 | [1; leave] | [1; return]}]]")
        placings = Placings(program, works(0, 1, 2), limit=Span(9))
        self.assertEqual(placings.least(), [works(0), works(1)])
        self.assertEqual(placings.calmest(), (Span(7), works(0)))

    def test_wrong_costs(self):
        self.assertEqual(len(self.placings.places()), 4)
        for value in STRANGE + [5, [1, 2, 3], [1, 2, 3, 4, 5], (1, 2, 3), [1, 2, 3, -1], [1, 2, 3, True], [False, 1, 2, 3],
                                [1, 2, 3, None], [1, 2, 3, "4"], [1, 2, 3, Span(4)], {0: 1, 1: 1, 2: 1, 3: 1}, "1234",
                                b"1234", {1, 2, 3, 4}, Span(1), [[1, 2, 3, 4]]]:
            self.refuses(InvalidCosts, {"value": value}, self.placings.cheapest, value)

    def test_costs_stay(self):
        costs = [3, 2, 1, 0]
        self.placings.cheapest(costs)
        self.assertEqual(costs, [3, 2, 1, 0])


if __name__ == "__main__":
    unittest.main()
