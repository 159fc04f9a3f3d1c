"""Point 18, the last part of guarantee (f) of point 3 and stoppoints/claims.py."""

import unittest

from stoppoints.changes import inlined, split, unrolled
from stoppoints.claims import check_claims, shows_span
from stoppoints.codes import Work, loops_of
from stoppoints.errors import CannotInline, InvalidCode, InvalidLoop
from stoppoints.longest import longest_trail, over
from stoppoints.numbers import Numbers, numbers_by
from stoppoints.programs import Program
from stoppoints.rules import Rule, ruled
from stoppoints.solving import called_numbers, span_of
from stoppoints.spans import Span
from stoppoints.texts import parse_code
from stoppoints.trails import Trail

from cases import STRANGE, Case, Same
from samples import (
    eight, generator, numbers_from, random_numbers, random_program, random_rings, random_tree_of_calls, span_of_time,
)

ENDLESS = Span.endless()


def program_of(first="f", **texts):
    return Program(first, {name: parse_code(text) for name, text in texts.items()})


def raised(numbers, rng):
    """Numbers that are at least these, in some of the eight."""
    times = [span_of_time(time) for time in eight(numbers)]
    while True:
        more = [rng.choice([span, span, span, ENDLESS, Span(0) if span is None else span + rng.choice([1, 5])])
                for span in times]
        spans = [span for span in more[:3] if span is not None]
        inner = [span for span in more[3:6] if span is not None]
        if all(span <= more[6] for span in spans) and (not inner or more[7] is not None and max_of(inner) <= more[7]):
            return Numbers(through=tuple(more[:3]), tail=tuple(more[3:6]), head=more[6], inner=more[7])


def max_of(spans):
    found = spans[0]
    for span in spans:
        found = span if found < span else found
    return found


def endless_numbers():
    return Numbers(through=(ENDLESS,) * 3, tail=(ENDLESS,) * 3, head=ENDLESS, inner=ENDLESS)


def a_program():
    return program_of(f="[2; call g; 3]", g="[1; {[4; ?a:2; 5] | [] | call h}]", h="[!; 0..3 1; ?b; 6]")


class ClaimsTest(Case):
    def right(self, program, claims, wanted):
        found = check_claims(program, claims)
        self.same(found, wanted)
        self.assertLessEqual(span_of(program), found)
        for name, numbers in called_numbers(program).items():
            self.assertLessEqual(numbers, claims[name])

    def test_the_numbers_of_calls(self):
        program = a_program()
        self.right(program, called_numbers(program), Span(9))
        self.assertEqual(span_of(program), Span(9))
        self.assertEqual(check_claims(claims=called_numbers(program), program=program), Span(9))

    def test_the_span_is_the_greater_one_of_head_and_inner(self):
        program = program_of(f="[7; ?a; 2]")
        self.right(program, called_numbers(program), Span(7))
        program = program_of(f="[2; ?a; 7]")
        self.right(program, called_numbers(program), Span(7))
        self.right(program_of(f="5"), called_numbers(program_of(f="5")), Span(5))
        claims = {"f": numbers_from([9, None, None, 7, None, None, 20, 8])}
        self.right(program, claims, Span(20))
        claims = {"f": numbers_from([9, None, None, 7, None, None, 9, 80])}
        self.right(program, claims, Span(80))

    def test_greater_ones(self):
        program = a_program()
        claims = called_numbers(program)
        claims["h"] = endless_numbers()
        # Then the others are too small, until they are endless, too.
        self.assertIsNone(check_claims(program, claims))
        claims["g"] = endless_numbers()
        self.assertIsNone(check_claims(program, claims))
        claims["f"] = endless_numbers()
        self.right(program, claims, ENDLESS)
        claims = called_numbers(program)
        claims["f"] = endless_numbers()
        self.right(program, claims, ENDLESS)

    def test_ones_that_are_too_small_in_just_one_of_the_eight(self):
        # Only the numbers of the way on, the head and the inner one are above None: a call does not leave or return.
        program = program_of(f="[1; {4 | 0..1 [6; ?a; 8; ?b; 3] | [!; 2]}; 1]")
        numbers = called_numbers(program)["f"]
        self.assertEqual(eight(numbers), [6, None, None, 4, None, None, 7, 8])
        self.assertEqual(check_claims(program, {"f": numbers}), Span(8))
        for k, less in [(0, 5), (0, None), (3, 3), (3, None), (6, 6), (7, 7)]:
            times = eight(numbers)
            times[k] = less
            self.assertIsNone(check_claims(program, {"f": numbers_from(times)}))
        for k in [0, 1, 2, 3, 4, 5]:
            for more in [0, 7]:
                times = [6, None, None, 4, None, None, 7, 8]
                times[k] = max(more, times[k] or 0)
                self.assertEqual(check_claims(program, {"f": numbers_from(times)}), Span(8))

    def test_leave_and_return_of_claims_are_taken_as_they_are_told(self):
        # The claimed ways out of a call are ways out of the code that calls.
        program = program_of(f="[0..* [call g; 5]; 2]", g="?a")
        claims = called_numbers(program)
        self.assertEqual(eight(claims["f"]), [2, None, None, 7, None, None, 2, 7])
        self.assertEqual(check_claims(program, claims), Span(7))
        for ways in [[None, 3, None], [None, None, 5]]:
            # As it is told, the call can end the loop or the function, in its first turn or behind a look and 5.
            claims["g"] = numbers_from([*ways, 0, None, None, max(way or 0 for way in ways), 0])
            claims["f"] = numbers_from([5, None, None, 10, None, None, 5, 10])
            self.right(program, claims, Span(10))
            for less in [[4, None, None, 10, None, None, 5, 10], [5, None, None, 9, None, None, 5, 10],
                         [None, None, None, 10, None, None, 4, 10], [5, None, None, 9, None, None, 5, 9]]:
                claims["f"] = numbers_from(less)
                self.assertIsNone(check_claims(program, claims))
        # A way that the function itself does not tell of its claim is above None, and so the claim is right.
        self.right(program_of(f="5"), {"f": numbers_from([5, 1, 2, None, None, None, 5, None])}, Span(5))

    def test_endless_ones(self):
        program = program_of(f="0..* [1; {[] | ?a}]")
        self.right(program, called_numbers(program), ENDLESS)
        self.right(program, {"f": endless_numbers()}, ENDLESS)
        times = ["endless", None, None, "endless", None, None, "endless", "endless"]
        self.assertEqual(eight(called_numbers(program)["f"]), times)
        # The head and the inner one are at least the way through and the tail.
        for indexes in [[0], [3], [0, 6], [3, 7]]:
            less = [10 ** 60 if k in indexes else time for k, time in enumerate(times)]
            self.assertIsNone(check_claims(program, {"f": numbers_from(less)}))

    def test_another_order(self):
        program = a_program()
        claims = called_numbers(program)
        for names in ["fgh", "hgf", "gfh"]:
            self.right(program, {name: claims[name] for name in names}, Span(9))

    def test_what_is_no_claims(self):
        program = a_program()
        claims = called_numbers(program)
        for name in claims:
            less = {other: claims[other] for other in claims if other != name}
            for value in [less, {**less, "k": claims[name]}, {**less, name.upper(): claims[name]}, {**less, None: claims[name]},
                          {**less, 0: claims[name]}, {**less, (name,): claims[name]}, {**less, Same(): claims[name]},
                          {**less, name.encode(): claims[name]}]:
                self.assertIsNone(check_claims(program, value))
            for worth in STRANGE + [5, Span(9), Same(), program, [claims[name]], (claims[name],), eight(claims[name]), Numbers]:
                self.assertIsNone(check_claims(program, {**claims, name: worth}))
        for more in ["k", "", 0, None, True, (), Same(), "ff"]:
            self.assertIsNone(check_claims(program, {**claims, more: claims["f"]}))
        for value in STRANGE + [list(claims), list(claims.items()), tuple(claims.items()), set(claims), claims["f"], Same(),
                                program, [claims], Span(9), iter(claims.items())]:
            self.assertIsNone(check_claims(program, value))
            self.assertIsNone(shows_span(program, value, longest_trail(program).entries))

    def test_rings_that_bear_each_other_out(self):
        program = program_of(f="{1 | [?a; call g]}", g="{2 | [call f; 3; ?b]}")
        claims = called_numbers(program)
        self.right(program, claims, span_of(program))
        # Each of these claims rests on the other one, and there is no walk that would come to so much.
        great = numbers_from([100, None, None, 100, None, None, 100, 103])
        self.assertIsNone(check_claims(program, {"f": great, "g": claims["g"]}))
        self.right(program_of(f="call g", g="call f"), {"f": great, "g": great}, Span(103))
        self.right(program_of(f="{1 | call g}", g="{2 | call f}"), {"f": great, "g": great}, Span(103))
        self.assertIsNone(check_claims(program_of(f="{1 | call g}", g="{2 | [call f; 1]}"), {"f": great, "g": great}))
        none = numbers_from([None] * 6 + [0, None])
        self.right(program_of(f="call g", g="call f"), {"f": none, "g": none}, Span(0))
        self.assertIsNone(check_claims(program_of(f="{1 | call g}", g="call f"), {"f": none, "g": none}))

    def test_claims_that_would_have_to_be_above_themselves(self):
        program = program_of(f="{0 | [1; call f]}")
        for time in [0, 1, 5, 10 ** 60]:
            self.assertIsNone(check_claims(program, {"f": numbers_from([time] + [None] * 5 + [time, None])}))
        self.right(program, {"f": numbers_from(["endless"] + [None] * 5 + ["endless", None])}, ENDLESS)

    def test_nothing_is_changed(self):
        program = a_program()
        claims = called_numbers(program)
        check_claims(program, claims)
        self.assertEqual(claims, called_numbers(program))
        self.assertEqual(list(claims), ["f", "g", "h"])
        self.assertEqual(check_claims(program, claims), check_claims(program, claims))

    def test_by_chance(self):
        rng = generator(181)
        found = {"right": 0, "raised": 0, "wrong": 0}
        for k in range(700):
            program = random_rings(rng) if k % 2 else Program(*random_program(rng))
            numbers = called_numbers(program)
            self.right(program, numbers, span_of(program))
            found["right"] += 1
            name = rng.choice(program.names())
            for claims in [{**numbers, name: raised(numbers[name], rng)}, {**numbers, name: random_numbers(rng)},
                           {other: random_numbers(rng) for other in program.names()},
                           {other: raised(numbers[other], rng) for other in program.names()}]:
                self.compare(program, claims, found)
        self.assertGreater(min(found.values()), 100)

    def compare(self, program, claims, found):
        wanted = all(numbers_by(program[name], claims).called() <= claims[name] for name in program.names())
        if wanted:
            self.right(program, claims, claims[program.first].span)
            found["raised"] += 1
        else:
            self.assertIsNone(check_claims(program, claims))
            found["wrong"] += 1

    def test_changed_programs(self):
        rng = generator(182)
        changed = 0
        for _ in range(300):
            program = random_tree_of_calls(rng)
            claims = called_numbers(program)
            name = rng.choice(program.names())
            loops = loops_of(program[name])
            try:
                if loops:
                    plain = unrolled(program, name, rng.randrange(len(loops)), 2)
                    self.assertEqual(check_claims(plain, claims), span_of(plain))
                    looked = split(program, name, rng.randrange(len(loops)), 2)
                    self.assertEqual(check_claims(looked, called_numbers(looked)), span_of(looked))
                    changed += 1
                rest = inlined(program, name)
                self.assertEqual(check_claims(rest, {other: claims[other] for other in rest.names()}), span_of(program))
            except (InvalidLoop, InvalidCode, CannotInline):
                pass
        self.assertGreater(changed, 50)

    def test_programs_under_a_rule(self):
        program = a_program()
        under = ruled(program, Rule.at_entries())
        self.assertEqual(check_claims(under, called_numbers(under)), span_of(under))
        # The looks at the entries are no claims of the program without them.
        self.assertIsNone(check_claims(under, called_numbers(program)))


class ShowsTest(Case):
    def test_the_longest_trail(self):
        program = a_program()
        entries = longest_trail(program).entries
        self.same(shows_span(program, called_numbers(program), entries), Span(9))
        self.same(shows_span(entries=entries, claims=called_numbers(program), program=program), Span(9))

    def test_claims_that_are_greater_than_needed(self):
        program = program_of(f="[2; ?a; 7]")
        entries = longest_trail(program).entries
        claims = {"f": numbers_from([6, 1, None, 7, None, 3, 6, 7])}
        self.assertEqual(shows_span(program, claims, entries), Span(7))
        claims = {"f": numbers_from([9, None, None, 7, None, None, 9, 7])}
        self.assertEqual(check_claims(program, claims), Span(9))
        self.assertIsNone(shows_span(program, claims, entries))
        self.assertIsNone(shows_span(program, {"f": endless_numbers()}, entries))

    def test_claims_that_are_not_right(self):
        program = program_of(f="[2; ?a; 7]")
        entries = longest_trail(program).entries
        self.assertIsNone(shows_span(program, {"f": numbers_from([None] * 6 + [7, None])}, entries))
        self.assertIsNone(shows_span(program, {}, entries))
        self.assertIsNone(shows_span(program, None, entries))

    def test_other_trails(self):
        program = program_of(f="{[2; ?a; 7] | [7; !] | 6}")
        claims = called_numbers(program)
        for tree, wanted in [
                (("either", 0, ("row", ("go", "go", "go"))), Span(7)), (("either", 1, ("row", ("go", "go"))), Span(7)),
                (("either", 1, ("row", ("go", "here"))), Span(7)), (("either", 2, "go"), None), ("here", None),
                (("either", 0, ("row", ("go", "go", "here"))), None), (("either", 3, "go"), None), ("go", None)]:
            self.assertEqual(shows_span(program, claims, (("f", tree),)), wanted)

    def test_what_are_no_entries(self):
        program = program_of(f="7")
        claims = called_numbers(program)
        entries = (("f", "go"),)
        self.assertEqual(shows_span(program, claims, entries), Span(7))
        for value in STRANGE + [list(entries), [["f", "go"]], (["f", "go"],), ("f", "go"), (("f", "go"), ("g", "go")),
                                (("f",),), (("f", "go"), None), ((Same(), "go"),), (("f", Same()),), Same(), program,
                                Trail(program, entries), Span(7), (entries,), {0: ("f", "go")}]:
            self.assertIsNone(shows_span(program, claims, value))
        program = program_of(f="7", g="7")
        self.assertIsNone(shows_span(program, called_numbers(program), (("f", "go"), ("g", "go"))))
        self.assertEqual(shows_span(program, called_numbers(program), (("g", "go"), ("f", "go"))), Span(7))

    def test_endless_spans(self):
        program = program_of(f="0..* 1")
        claims = called_numbers(program)
        self.assertEqual(check_claims(program, claims), ENDLESS)
        for time in [0, 50]:
            self.assertIsNone(shows_span(program, claims, over(program, time).entries))

    def test_a_span_of_nothing(self):
        program = program_of(f="call f")
        self.assertEqual(shows_span(program, called_numbers(program), (("f", "here"),)), Span(0))

    def test_by_chance(self):
        rng = generator(183)
        shown = {True: 0, False: 0}
        for k in range(400):
            program = random_rings(rng) if k % 2 else Program(*random_program(rng))
            claims, span = called_numbers(program), span_of(program)
            if span.is_endless():
                self.assertIsNone(shows_span(program, claims, over(program, 5).entries))
                continue
            entries = longest_trail(program).entries
            self.assertEqual(shows_span(program, claims, entries), span)
            other = longest_trail(Program(program.first, {**{name: program[name] for name in program.names()},
                                                          program.first: Work(3)})).entries
            shown[shows_span(program, claims, other) is not None] += 1
        self.assertGreater(min(shown.values()), 1)


if __name__ == "__main__":
    unittest.main()
