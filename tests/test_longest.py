"""Points 3 (b) and 11 and stoppoints/longest.py."""

import unittest

from stoppoints.errors import InvalidNumber
from stoppoints.longest import longest_trail, over
from stoppoints.programs import Program
from stoppoints.solving import span_of
from stoppoints.spans import Span
from stoppoints.texts import parse_code
from stoppoints.trails import Trail

from cases import STRANGE, TOP, Case
from paths import TooLong, path_of
from samples import generator, random_program, random_rings, walk_by_chance

NAMES = "abcdefghijkl"


def program_of(first="f", **texts):
    return Program(first, {name: parse_code(text) for name, text in texts.items()})


class TrailCase(Case):
    def holds(self, program, trail):
        """That a trail is one of the program, and that its times are those of its steps."""
        self.assertIsInstance(trail, Trail)
        again = Trail(program, trail.entries)
        self.assertEqual((again.greatest, again.time), (trail.greatest, trail.time))
        try:
            path = path_of(program, trail.entries)
        except TooLong:
            return
        self.assertEqual(path.told()["greatest"], trail.greatest)


class LongestTest(TrailCase):
    def check(self, wanted, first="f", **texts):
        """That the span and the longest trail are as wanted, or endless."""
        program = program_of(first, **texts)
        trail = longest_trail(program)
        if wanted == "endless":
            self.assertIsNone(trail)
            self.assertIs(span_of(program).is_endless(), True)
        else:
            self.holds(program, trail)
            self.same(trail.greatest, wanted)
            self.assertEqual(span_of(program), Span(wanted))

    def test_example_of_the_document(self):
        self.check(12, f="3..3 [4; 0..1 ?a]")
        self.assertEqual(longest_trail(program=program_of(f="3..3 [4; 0..1 ?a]")).greatest, 12)

    def test_spans_of_nothing(self):
        for text in ["[]", "0", "?a", "!", "return", "0..* ?a", "0..0 5", "[return; 5]", "call f", "{[] | call f}",
                     "[call f; 5]", "5..* [?a; !]", "5..5 0", "1..* leave"]:
            with self.subTest(text):
                self.check(0, f=text)

    def test_plain_codes(self):
        self.check(5, f="5")
        self.check(7, f="[2; 5; ?a; 6]")
        self.check(6, f="[2; ?a; 6; !; 5; return; 9]")
        self.check(9, f="[2; ?a:7; 6]")
        self.check(8, f="{2 | [1; ?a; 8] | 5}")

    def test_the_greatest_stretch_within(self):
        self.check(9, f="[1; ?a; 4; {5 | ?b}; ?a; 8]")
        self.check(20, f="[9; ?a; 1..4 [?b; {5 | [?a; 1]}; 5; ?a]; 10; {?a | 10}]")

    def test_loops(self):
        self.check(12, f="0..4 3")
        self.check(15, f="3..5 3")
        self.check(31, f="[?a; 3..5 {4 | [1; ?b; 7] | [8; leave]}; 4]")
        self.check(4 * 3 + 9, f="1..4 {4 | [?b; 4] | [9; leave]}")
        self.check(48, f="6..6 [8; {[] | ?a}]")
        self.check(14, f="0..2 [7; ?a; 7]")
        self.check(7, f="0..1 [7; ?a; 7]")
        self.check(7, f="[1; 5..5 [3; ?a; 3]; 4]")

    def test_turns_that_low_needs(self):
        # The stretch lies in one turn, or in two, and the trail needs no more than these.
        self.check(2, f="7..9 [1; ?a; 1]")
        self.check(5, f="[2; 7..9 [1; ?a; 1]; 4]")
        self.check(4, f="7..9 {[?a; 1; return] | [?b; 3; leave] | [?b; 4; ?a]}")
        self.check(8, f=f"{TOP}..* [3; ?a; 5]")
        self.check(9, f=f"[{TOP}..* [3; ?a; 5]; 4]")
        self.check(6, f=f"[{TOP}..* 0; 6]")
        self.check(6, f=f"[?a; {TOP}..{TOP} {{0 | ?b}}; 6]")

    def test_loops_with_no_high_and_nothing_to_gain(self):
        self.check(5, f="0..* [2; ?a; 3]")
        self.check(9, f="[4; 0..* 0; 5; ?a]")
        self.check(9, f="[4; 0..* {[] | ?b}; 5; ?a]")
        self.check(9, f="[4; 3..* {leave | return | [1; ?b]}; 5; ?a]")
        self.check(11, f="0..* [2; ?a; 3; 0..* 0; 6; {leave | []}]")

    def test_great_spans(self):
        top = str(TOP)
        self.check(TOP ** 2, f=f"{top}..{top} {top}")
        self.check(TOP ** 2 + TOP, f=f"[?a; 0..{top} {{{top} | ?a}}; {top}]")
        self.check(TOP ** 4, f=f"{top}..{top} call g", g=f"0..{top} call h", h=f"1..{top} {top}")
        chain = {NAMES[k]: f"{top}..{top} {{call {NAMES[k + 1]} | ?a}}" for k in range(11)}
        self.check(TOP ** 11, first="a", l="1", **chain)

    def test_calls(self):
        self.check(12, f="[1; call g; 2; call g]", g="{3 | [?a; 1; return; 7] | [4; ?b; 6]}")
        self.check(24, f="[call g; 2; call g]", g="[{5 | [4; !]}; {6 | return}; 0..1 ?a]")
        self.check(3, f="[3; return; call g]", g="50")

    def test_calls_that_do_not_come_back(self):
        self.check(7, f="[3; call g; ?a; 50; call f]", g="[4; ?b; call g]")
        self.check(9, f="[5; call g; 100]", g="[4; !; call f]")

    def test_rings(self):
        self.check(5, f="{5 | [2; ?a; call f; !; 3]}")
        self.check(50, f="{[?a; 50] | [?b; call f; ?c; 1]}")
        self.check(7, f="{7 | [0; call f; 0]}")
        self.check(1, f="[1; {[] | [?a; call f; ?b]}]")
        self.check("endless", f="{0 | [?a; call f; 1]}")
        self.check("endless", f="[1; call f]")

    def test_rings_of_twelve(self):
        for many in (2, 5, 12):
            functions = {NAMES[k]: f"{{1 | [?a; call {NAMES[(k + 1) % many]}; ?b]}}" for k in range(many)}
            functions[NAMES[many - 1]] = "{90 | [?a; call a; ?b]}"
            self.check(90, first="a", **functions)
            functions[NAMES[many - 1]] = "{[60; !; 70] | call a}"
            self.check(70, first="a", **functions)

    def test_endless_numbers_that_do_not_count(self):
        self.check(3, f="[3; 0..0 call g; return; call g]", g="[1; call g]")
        self.check(4, f="[4; ?a; return; 0..* 1]")
        self.check(2 * TOP, f=f"[{TOP}; 0..0 call g; {TOP}; return; call g]", g="[1; {[] | call g}]")

    def test_endless(self):
        self.check("endless", f="0..* 1")
        self.check("endless", f="[?a; 0..* {1 | ?a}]")
        self.check("endless", f="{[] | [?a; call f; 1]}")

    def test_again_the_same(self):
        program = random_rings(generator(61))
        one, other = longest_trail(program), longest_trail(program)
        self.assertEqual(one and one.entries, other and other.entries)

    def test_by_chance(self):
        rng = generator(62)
        found = 0
        for k in range(1200):
            program = random_rings(rng) if k % 2 else Program(*random_program(rng))
            trail = longest_trail(program)
            span = span_of(program)
            if span.is_endless():
                self.assertIsNone(trail)
                continue
            found += 1
            self.holds(program, trail)
            self.assertEqual(trail.greatest, span.time)
            walk = walk_by_chance(rng, program, 12)
            if walk is not None:
                self.assertLessEqual(walk.greatest, trail.greatest)
        self.assertGreater(found, 600)


class OverTest(TrailCase):
    def check(self, program, *times):
        for time in times:
            trail = over(program, time)
            if span_of(program) > Span(time):
                self.holds(program, trail)
                self.assertGreater(trail.greatest, time)
            else:
                self.assertIsNone(trail)

    def test_spans_with_an_end(self):
        program = program_of(f="[2; ?a; 5; !; 4]")
        self.assertIsNone(over(program, 5))
        self.assertIsNone(over(program, 50))
        self.assertEqual(over(program, 4).greatest, 5)
        self.assertGreater(over(time=0, program=program).greatest, 0)
        self.check(program, *range(51))
        self.check(program_of(f="51"), *range(51))
        self.check(program_of(f="50"), *range(51))
        self.check(program_of(f=f"0..{TOP} {TOP}"), 0, 1, 49, 50)

    def test_span_of_nothing(self):
        self.check(program_of(f="[]"), 0, 1, 50)
        self.check(program_of(f="0..* ?a"), 0, 1, 50)

    def test_endless_loops(self):
        for text in ["0..* 1", f"{TOP}..* 1", "0..* [1; {[] | ?a}]", "[?a; 0..* {1 | !}; ?b]", "0..* 0..* 0..1 1",
                     "0..* [1; {[] | leave | return}]", "[0..* [?a; 0..* [1; {[] | leave}]]; 9]", "[0..* 60; ?a; 3]"]:
            with self.subTest(text):
                self.check(program_of(f=text), *range(51))

    def test_endless_rings(self):
        for text in ["[1; call f]", "[1; {[] | call f}]", "[{[] | call f}; 1]", "{0 | [?a; call f; 1]}",
                     "{1 | [call f; call f]}", "{7 | [2; call f; !; 3]}", "[?a; 0..3 [1; {[] | [call f; leave]}]; 10]",
                     "0..3 [1; {[] | call f}]", f"0..{TOP} [{TOP}; {{[] | call f}}]"]:
            with self.subTest(text):
                self.check(program_of(f=text), *range(51))

    def test_endless_rings_of_twelve(self):
        for step in (1, 5, 7, 11):
            functions = {NAMES[k]: f"[{{[] | call {NAMES[(k + step) % 12]}}}; 0]" for k in range(12)}
            functions["d"] = functions["d"].replace("0]", "1]")
            self.check(program_of("a", **functions), 0, 1, 2, 17, 49, 50)
            functions["d"] = functions["d"].replace("1]", "1; ?a]")
            self.check(program_of("a", **functions), 0, 1)

    def test_a_slow_ring_beside_a_quick_one(self):
        program = program_of(f="[?a; call g; ?a; call h]", g="{0 | [call g; 1; ?b]}", h="{0 | [?a; call h; 1]}")
        self.check(program, *range(51))
        program = program_of(f="{call g | call h}", g=f"[?a; 0..{TOP} [{TOP}; return; call g]]", h="{0 | [1; call h]}")
        self.check(program, 0, 50)
        # What grows quickly is not met by any walk.
        program = program_of(f="{[return; call g] | call h}", g=f"0..{TOP} [call g; {TOP}]", h="{0 | [1; call h]}")
        self.check(program, 0, 50)

    def test_times(self):
        programs = [program_of(f="0..* 1"), program_of(f="5"), program_of(f="[]")]
        for program in programs:
            for time in STRANGE + [-1, 51, TOP, -TOP, Span(5)]:
                self.refuses(InvalidNumber, {"value": time}, over, program, time)
        self.assertGreater(over(programs[0], 50).greatest, 50)
        self.assertGreater(over(programs[0], 0).greatest, 0)

    def test_by_chance(self):
        rng = generator(63)
        endless = 0
        for k in range(400):
            program = random_rings(rng) if k % 4 else Program(*random_program(rng))
            endless += span_of(program).is_endless()
            self.check(program, 0, 1, rng.randrange(2, 50), 50)
        self.assertGreater(endless, 60)


if __name__ == "__main__":
    unittest.main()
