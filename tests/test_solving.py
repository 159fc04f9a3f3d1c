"""Points 3 (a), 3 (c), 9 and 10 and stoppoints/solving.py."""

import unittest

from stoppoints.codes import Call, Either, Look, Loop, Row, Work
from stoppoints.errors import UnknownName
from stoppoints.numbers import Numbers, numbers_by
from stoppoints.programs import Program, reached
from stoppoints.solving import called_numbers, endless_loops, numbers_of, span_of
from stoppoints.spans import Span
from stoppoints.texts import parse_code

from cases import TOP, Case
from samples import (WAYS, TooMany, eight, expected, generator, measured, random_code, random_program, random_rings,
                     walk_by_chance, walks_of_function)

NO = (None, None, None)
NAMES = "abcdefghijkl"


def program_of(first, **texts):
    return Program(first, {name: parse_code(text) for name, text in texts.items()})


def called(first, **texts):
    """The eight numbers of calls of the first function."""
    return eight(called_numbers(program_of(first, **texts))[first])


def span(first, **texts):
    time = span_of(program_of(first, **texts)).time
    return "endless" if time is None else time


def ring_of(many, text):
    """The functions of a ring: in each, NEXT is the name of the next one."""
    return {NAMES[k]: text.replace("NEXT", NAMES[(k + 1) % many]) for k in range(many)}


class CallsTest(Case):
    def test_plain_calls(self):
        self.assertEqual(called("f", f="[1; call g; 2]", g="[3; ?a; 4]"),
                         [None, None, None, 6, None, None, 4, 6])
        self.assertEqual(called("f", f="[1; call g; call g; 2]", g="[3; ?a; 4]"),
                         [None, None, None, 6, None, None, 4, 7])
        self.assertEqual(called("f", f="[call g; call g; call h]", g="[call h; call h]", h="5"),
                         [25, None, None, None, None, None, 25, None])

    def test_return_ends_the_called_function_only(self):
        self.assertEqual(called("f", f="[call g; 4]", g="[{[1; return] | 2}; 8]"),
                         [14, None, None, None, None, None, 14, None])
        self.assertEqual(called("f", f="[call g; 4]", g="[?a; return; 100]"),
                         [None, None, None, 4, None, None, 0, 4])

    def test_return_in_the_first_function(self):
        self.assertEqual(called("f", f="[3; return; call g]", g="50"), [3, None, None, None, None, None, 3, None])
        self.assertEqual(called("f", f="0..* [3; {return | ?a}]"), [3, None, None, 3, None, None, 3, 3])
        self.assertEqual(span("f", f="[3; return; 9; call f]"), 3)

    def test_return_leaves_all_loops_of_its_function(self):
        self.assertEqual(span("f", f="[2..2 1..3 [call g; 5]; 7]", g="1..* 1..* [1; return]"), 43)
        self.assertEqual(span("f", f="[2..2 1..3 [1; return]; 7]"), 1)

    def test_leave_in_nested_loops(self):
        self.assertEqual(span("f", f="3..3 [1; 1..* [4; leave]; 2]"), 21)
        self.assertEqual(span("f", f="0..5 [1; 0..3 [4; {[] | leave}]; {[] | [9; leave]}]"), 5 * 13 + 9)
        self.assertEqual(span("f", f="0..* [0..* [4; leave]; {?a | leave}]"), 4)

    def test_loops_of_calls(self):
        self.assertEqual(span("f", f="0..0 call g", g="7"), 0)
        self.assertEqual(span("f", f="4..4 call g", g="7"), 28)
        self.assertEqual(span("f", f="0..* call g", g="0"), 0)
        self.assertEqual(span("f", f="0..* call g", g="[0; {[] | ?a:7}]"), 7)
        self.assertEqual(span("f", f="0..* call g", g="{[] | [5; return]}"), "endless")
        self.assertEqual(span("f", f="0..* call g", g="[5; !; 6]"), 11)

    def test_great_numbers(self):
        top = str(TOP)
        self.assertEqual(span("f", f=f"{top}..{top} call g", g=f"{top}..{top} call h", h=top), TOP ** 3)
        self.assertEqual(span("f", f=f"0..{top} {{call g | ?a:{top}}}", g=top), TOP ** 2)
        chain = {NAMES[k]: f"{top}..{top} call {NAMES[k + 1]}" for k in range(11)}
        self.assertEqual(span("a", l="1", **chain), TOP ** 11)

    def test_functions_that_are_not_reached(self):
        self.assertEqual(span("f", f="3", g="0..* 1", h="call h"), 3)
        numbers = called_numbers(program_of("f", f="3", g="0..* 1", h="[1; call h]"))
        self.assertEqual(eight(numbers["f"]), [3, None, None, None, None, None, 3, None])
        self.assertEqual(eight(numbers["g"]), ["endless", None, None, None, None, None, "endless", None])
        self.assertEqual(eight(numbers["h"]), [None, None, None, None, None, None, "endless", None])

    def test_names_of_called_numbers(self):
        program = random_rings(generator(1))
        numbers = called_numbers(program=program)
        self.assertEqual(sorted(numbers), program.names())
        self.assertTrue(all(isinstance(told, Numbers) for told in numbers.values()))
        numbers.clear()
        self.assertEqual(sorted(called_numbers(program)), program.names())


class RingsTest(Case):
    def test_work_ahead_of_the_call(self):
        self.assertEqual(called("f", f="[1; {[] | call f}]"), ["endless", None, None, None, None, None, "endless", None])
        self.assertEqual(called("f", f="[1; ?a; {[] | call f}]"), [None, None, None, 0, None, None, 1, 1])

    def test_work_behind_the_call(self):
        self.assertEqual(called("f", f="[{[] | call f}; 1]"), ["endless", None, None, None, None, None, "endless", None])
        self.assertEqual(called("f", f="{[] | [?a; call f; 1]}"),
                         [0, None, None, "endless", None, None, 0, "endless"])
        self.assertEqual(called("f", f="{[] | [call f; 1; ?a]}"), [0, None, None, 0, None, None, 1, 1])

    def test_work_on_both_sides(self):
        self.assertEqual(called("f", f="{[] | [2; ?a; call f; !; 3]}"), [0, None, None, 3, None, None, 2, 3])
        self.assertEqual(called("f", f="{5 | [2; ?a; call f; !; 3]}"), [5, None, None, 3, None, None, 5, 5])
        self.assertEqual(called("f", f="{5 | [2; ?a; call f; 3]}"), [5, None, None, "endless", None, None, 5, "endless"])
        self.assertEqual(called("f", f="{5 | [2; call f; !; 3]}"), [5, None, None, 3, None, None, "endless", 3])

    def test_looks_and_stands_between(self):
        self.assertEqual(called("f", f="{4 | [?a; call f; ?b; call f; !]}"), [4, None, None, 0, None, None, 4, 4])
        self.assertEqual(called("f", f="{4 | [?a:2; call f; ?b:3; call f; !]}"), [4, None, None, 0, None, None, 4, 7])

    def test_nothing_gained_in_a_ring(self):
        self.assertEqual(called("f", f="{7 | [0; call f; 0]}"), [7, None, None, None, None, None, 7, None])
        self.assertEqual(called("f", f="{7 | [call f; call f]}"),
                         ["endless", None, None, None, None, None, "endless", None])
        self.assertEqual(called("f", f="{0 | [call f; call f]}"), [0, None, None, None, None, None, 0, None])
        self.assertEqual(called("f", f="{call f | call f | 2}"), [2, None, None, None, None, None, 2, None])

    def test_rings_without_a_base(self):
        self.assertEqual(called("f", f="call f"), [None, None, None, None, None, None, 0, None])
        self.assertEqual(called("f", f="[call f; 5]"), [None, None, None, None, None, None, 0, None])
        self.assertEqual(called("f", f="[5; call f]"), [None, None, None, None, None, None, "endless", None])
        self.assertEqual(called("f", f="[5; ?a; call f]"), [None, None, None, None, None, None, 5, 5])
        self.assertEqual(called("f", f="[5; call g; 100]", g="[2; !; call f]"),
                         [None, None, None, None, None, None, 7, 5 + 2])
        self.assertEqual(span("f", f="[3; call g; ?a; 50; call f]", g="[4; call g]"), "endless")
        self.assertEqual(span("f", f="[3; call g; ?a; 50; call f]", g="[4; ?b; call g]"), 7)

    def test_a_ring_that_ends_by_return(self):
        self.assertEqual(called("f", f="[2; ?a; {return | call f}; 9]"), [None, None, None, "endless", None, None, 2, "endless"])
        self.assertEqual(called("f", f="[2; ?a; {return | [call f; return]}; 9]"), [None, None, None, 0, None, None, 2, 2])

    def test_the_last_call_is_another_one(self):
        # Only the innermost call has the great work behind its look.
        self.assertEqual(called("f", f="{[?a; 50] | [?b; call f; ?c; 1]}"), [None, None, None, 50, None, None, 0, 50])
        self.assertEqual(called("f", f="[call g; {[] | [?b; call f; ?c]}]", g="{1 | [?a; 50]}"),
                         [1, None, None, 50, None, None, 1, 50])

    def test_rings_of_twelve(self):
        for many in (1, 2, 3, 7, 12):
            with self.subTest(many):
                self.assertEqual(span("a", **ring_of(many, "[1; {[] | [?a; call NEXT]}]")), 1)
                self.assertEqual(span("a", **ring_of(many, "[{[] | call NEXT}; 1]")), "endless")
                self.assertEqual(span("a", **ring_of(many, "{2 | [1; call NEXT; 1; !]}")), "endless")
                self.assertEqual(span("a", **ring_of(many, "{2 | [1; ?a; call NEXT; 1; !]}")), 3)
                self.assertEqual(span("a", **ring_of(many, "[?a; call NEXT; 5]")), 0)
                self.assertEqual(span("a", **ring_of(many, "[0; call NEXT]")), 0)
                self.assertEqual(span("a", **ring_of(many, "[{[] | call NEXT}; 0..* 0]")), 0)

    def test_one_work_in_a_ring_of_twelve(self):
        # Through all the others nothing is gained: the work is met once in each round.
        for k in range(12):
            functions = ring_of(12, "{[] | call NEXT}")
            functions[NAMES[k]] = "[{[] | call NEXT}; 1]".replace("NEXT", NAMES[(k + 1) % 12])
            self.assertEqual(span("a", **functions), "endless")
            functions[NAMES[k]] = "[{[] | call NEXT}; 1; ?a]".replace("NEXT", NAMES[(k + 1) % 12])
            self.assertEqual(span("a", **functions), 1)

    def test_numbers_that_come_from_far_around_a_ring(self):
        # The greatest times are found behind as many calls as there are functions, and no more.
        for many in (2, 5, 12):
            functions = ring_of(many, "{1 | [?a; call NEXT; ?b]}")
            functions[NAMES[many - 1]] = "{90 | [?a; call a; ?b]}"
            self.assertEqual(span("a", **functions), 90)
            functions = ring_of(many, "{[] | call NEXT}")
            functions[NAMES[many - 1]] = "{[60; !; 70] | call a}"
            self.assertEqual(called("a", **functions), [0, None, None, 70, None, None, 60, 70])

    def test_times_that_need_many_calls_one_within_another(self):
        self.assertEqual(called("f", f="{1 | [call f; ?b:2]}"), [1, None, None, 0, None, None, 3, 2])
        # Calls that are written, but never made, lead one way around the ring, and those that are made the other way.
        for many in (2, 3, 8, 12):
            last = NAMES[many - 1]
            functions = {NAMES[k]: f"[0..0 call {NAMES[(k + 1) % many]}; call {NAMES[k - 1]}]" for k in range(1, many)}
            functions["a"] = f"[0..0 call b; {{5 | [call {last}; 7; ?x:1]}}]"
            self.assertEqual(called(last, **functions), [5, None, None, 0, None, None, 13, 8])
            functions["a"] = f"[0..0 call b; {{5 | [?x; 7; call {last}]}}]"
            self.assertEqual(called(last, **functions), [5, None, None, 12, None, None, 5, 12])
            functions["a"] = f"[0..0 call b; {{[?x; 5] | [call {last}; ?x; 7; call {last}; ?x; return; 9]}}]"
            self.assertEqual(called(last, **functions), [None, None, None, 5, None, None, 0, 7])
            functions["a"] = f"[0..0 call b; {{5 | [?x; 7; call {last}; 1]}}]"
            self.assertEqual(called(last, **functions), [5, None, None, "endless", None, None, 5, "endless"])

    def test_a_chain_of_rings(self):
        functions = {name: f"{{[] | [?a; call {name}; call {NAMES[k + 1]}]}}" for k, name in enumerate(NAMES[:11])}
        self.assertEqual(span("a", l="{3 | [?a; call l]}", **functions), "endless")
        self.assertEqual(span("a", l="{0 | [?a; call l]}", **functions), 0)
        functions = {name: f"[1; {{[] | [?a; call {name}; ?a; call {NAMES[k + 1]}]}}]"
                     for k, name in enumerate(NAMES[:11])}
        self.assertEqual(span("a", l="[1; {[] | [?a; call l; ?a]}]", **functions), 1)

    def test_endless_and_other_numbers_in_one_program(self):
        numbers = called_numbers(program_of("f", f="[2; call g; call h]", g="[?a; 0..* 1; ?b; 3]", h="{4 | call g}"))
        self.assertEqual(eight(numbers["g"]), [None, None, None, 3, None, None, 0, "endless"])
        self.assertEqual(eight(numbers["h"]), [4, None, None, 3, None, None, 4, "endless"])
        self.assertEqual(eight(numbers["f"]), [None, None, None, 7, None, None, 2, "endless"])
        numbers = called_numbers(program_of("f", f="[?a; return; call g]", g="[1; call g]"))
        self.assertEqual(eight(numbers["f"]), [None, None, None, 0, None, None, 0, 0])
        self.assertEqual(eight(numbers["g"]), [None, None, None, None, None, None, "endless", None])

    def test_loops_in_rings(self):
        self.assertEqual(span("f", f="0..3 [1; {[] | call f}]"), "endless")
        self.assertEqual(span("f", f="0..3 [1; ?a; {[] | call f}]"), 1)
        self.assertEqual(span("f", f="[?a; 0..3 [1; {[] | call f}]]"), "endless")
        self.assertEqual(span("f", f="[?a; 0..3 [1; {[] | [call f; return]}]]"), 3)
        self.assertEqual(span("f", f="[?a; 0..3 [1; {[] | [call f; leave]}]; 10]"), "endless")
        self.assertEqual(span("f", f=f"[?a; 0..{TOP} [{TOP}; {{[] | [call f; return]}}]]"), TOP * TOP)


class SpansTest(Case):
    def test_examples_of_the_document(self):
        code = Loop(0, None, Row(Work(2), Look("a"), Work(3)))
        self.assertEqual(span_of(Program("f", {"f": code})).time, 5)
        body = Either(Work(0), Row(Look("a"), Call("f"), Work(1)))
        self.assertIs(span_of(Program("f", {"f": body})).is_endless(), True)

    def test_the_greater_one(self):
        self.assertEqual(span_of(program=program_of("f", f="[5; ?a; 4]")), Span(5))
        self.assertEqual(span_of(program_of("f", f="[5; ?a; 4; !; 6]")), Span(6))
        self.assertEqual(span_of(program_of("f", f="[]")), Span(0))
        self.assertEqual(span_of(program_of("f", f="[?a; 0..* 1]")), Span.endless())

    def test_span_is_that_of_the_first_function(self):
        rng = generator(31)
        for _ in range(100):
            program = random_rings(rng)
            numbers = called_numbers(program)
            for name in program.names():
                self.assertEqual(span_of(program.with_first(name)), numbers[name].span)

    def test_all_walks_of_programs_without_rings(self):
        rng = generator(32)
        compared = {way: 0 for way in range(8)}
        for _ in range(500):
            functions = {name: random_code(rng, 3, names="fgh"[k + 1:]) for k, name in enumerate("fgh")}
            told = {}
            try:
                for name in "hgf":
                    told[name] = walks_of_function(functions[name], told)
                wanted = {name: expected(Call(name), told) for name in "fgh"}
            except TooMany:
                continue
            numbers = called_numbers(Program("f", functions))
            for name in "fgh":
                self.assertEqual(eight(numbers[name]), wanted[name])
                for way in range(8):
                    compared[way] += wanted[name][way] is not None
        self.assertGreater(min(compared[way] for way in (0, 3, 6, 7)), 100)

    def test_all_walks_with_few_calls_within_another(self):
        # What walks do up to some depth of calls is never more than the numbers, and most often just as much.
        rng = generator(33)
        same = 0
        for _ in range(150):
            program = random_rings(rng)
            told = {name: {("here", (0,))} for name in program.names()}
            try:
                for _ in range(3):
                    told = {name: walks_of_function(program[name], told) for name in told}
            except TooMany:
                continue
            numbers = called_numbers(program)
            for name in told:
                wanted = measured(told[name])
                for time, most in zip(wanted, eight(numbers[name])):
                    self.assertTrue(time is None or most == "endless" or time <= most)
                same += eight(numbers[name]) == wanted
        self.assertGreater(same, 30)

    def test_what_no_more_depth_of_calls_changes(self):
        # Numbers by calls that may be only so deep: those that still grow behind many more are endless.
        rng = generator(34)
        grown = 0
        for _ in range(120):
            program = random_rings(rng)
            some = self.with_depth(program, 30)
            more = self.with_depth(program, 60)
            numbers = called_numbers(program)
            for name in numbers:
                for one, other, told in zip(eight(some[name]), eight(more[name]), eight(numbers[name])):
                    self.assertEqual(told, one if one == other else "endless")
                    grown += one != other
        self.assertGreater(grown, 40)

    def with_depth(self, program, depth):
        nothing = Numbers(through=NO, tail=NO, head=Span(0), inner=None)
        told = {name: nothing for name in program.names()}
        for _ in range(depth):
            told = {name: numbers_by(program[name], told).called() for name in told}
        return told

    def test_numbers_are_those_of_their_own_calls(self):
        rng = generator(35)
        for _ in range(200):
            program = random_rings(rng)
            numbers = called_numbers(program)
            for name in program.names():
                self.assertEqual(numbers_by(program[name], numbers).called(), numbers[name])
                self.assertEqual(numbers_by(program[name], numbers), numbers_of(program, program[name]))

    def test_a_hand_stands_within_the_span(self):
        rng = generator(36)
        rests = 0
        for k in range(600):
            program = random_rings(rng) if k % 2 else Program(*random_program(rng))
            span = span_of(program)
            walk = walk_by_chance(rng, program, 12)
            if walk is not None:
                self.assertLessEqual(Span(walk.greatest), span)
                for k in range(len(walk) + 1):
                    self.assertLessEqual(Span(walk.rest(k)), span)
                    rests += 1
        self.assertGreater(rests, 1500)

    def test_again_the_same(self):
        program = random_rings(generator(37))
        self.assertEqual(called_numbers(program), called_numbers(program))
        self.assertEqual(span_of(program), span_of(program))


class NumbersOfTest(Case):
    def test_a_code_beside_the_program(self):
        program = program_of("f", f="[1; ?a; 2]", g="[{[] | call g}; 1]")
        self.assertEqual(eight(numbers_of(program, parse_code("[4; call f; 8]"))),
                         [None, None, None, 10, None, None, 5, 10])
        self.assertEqual(eight(numbers_of(code=parse_code("[call g; leave]"), program=program)),
                         [None, "endless", None, None, None, None, "endless", None])
        self.assertEqual(numbers_of(program, parse_code("[?b; {leave | return}]")),
                         numbers_by(parse_code("[?b; {leave | return}]"), {}))

    def test_calls_are_those_of_called_numbers(self):
        rng = generator(38)
        for _ in range(100):
            program = random_rings(rng)
            code = random_code(rng, 4, names=program.names(), whole=False)
            self.assertEqual(numbers_of(program, code), numbers_by(code, called_numbers(program)))

    def test_unknown_names(self):
        program = program_of("f", f="1", g="call g")
        for text, name in [("call h", "h"), ("[call f; 0..0 [return; call z]; call a]", "z"),
                           ("{call g | call ff | call f}", "ff")]:
            self.refuses(UnknownName, {"name": name}, numbers_of, program, parse_code(text))


class EndlessLoopsTest(Case):
    def loops(self, first, **texts):
        return endless_loops(program_of(first, **texts))

    def test_none(self):
        self.assertEqual(self.loops("f", f="[0..5 1; 2]"), [])
        self.assertEqual(self.loops("f", f=f"0..{TOP} 1"), [])
        self.assertEqual(self.loops("f", f="0..* 0"), [])
        self.assertEqual(self.loops("f", f="0..* [1; ?a]"), [])
        self.assertEqual(self.loops("f", f="0..* [1; !]"), [])
        self.assertEqual(self.loops("f", f="0..* [1; {leave | return}]"), [])
        self.assertEqual(self.loops("f", f="0..* {?a | [1; leave]}"), [])

    def test_ordinary(self):
        self.assertEqual(self.loops("f", f="0..* 1"), [("f", 0)])
        self.assertEqual(self.loops("f", f=f"{TOP}..* {{?a | 1}}"), [("f", 0)])
        self.assertEqual(endless_loops(program=program_of("f", f="0..* [1; {[] | leave}]")), [("f", 0)])

    def test_index_counts_all_loops_as_they_begin(self):
        text = "[0..3 [0..* 0; 0..* [0..* ?a; 0..* 1]]; 0..* [?a; 0..1 1]; 1..* 2; 0..* 0..1 1]"
        # 0: 0..3, 1: 0..* 0, 2: around 3 and 4, 3: ?a, 4: 1, 5: ?a .., 6: 0..1, 7: 1..* 2, 8: around 9
        self.assertEqual(self.loops("f", f=text), [("f", 2), ("f", 4), ("f", 7), ("f", 8)])

    def test_by_names_then_indexes(self):
        loops = self.loops("m", m="[0..* 1; call z; call b; 0..* 0..* 1]", z="0..* 1", b="[call aa; 1..* 1]",
                           aa="[0..1 0; 0..* 3]")
        self.assertEqual(loops, [("aa", 1), ("b", 0), ("m", 0), ("m", 1), ("m", 2), ("z", 0)])

    def test_by_many_loops(self):
        text = "[" + "; ".join(["0..* 1"] * 12) + "]"
        self.assertEqual(self.loops("f", f=text), [("f", k) for k in range(12)])

    def test_calls_in_loops(self):
        self.assertEqual(self.loops("f", f="0..* call g", g="[{[] | 1}; {[] | [?a; return]}]"), [("f", 0)])
        self.assertEqual(self.loops("f", f="0..* call g", g="[{[] | 1}; ?a]"), [])
        self.assertEqual(self.loops("f", f="0..* call g", g="[1; call g]"), [])
        self.assertEqual(self.loops("f", f="0..* call g", g="{0 | [1; call g]}"), [("f", 0)])
        self.assertEqual(self.loops("f", f="{[] | [0..* call f; 1]}"), [("f", 0)])
        self.assertEqual(self.loops("f", f="{[] | [0..* [call f; ?a]; 1]}"), [])

    def test_only_reached_functions(self):
        texts = {"f": "call h", "g": "[0..* 1; call f]", "h": "[0..0 call k; 0..* 2]", "k": "0..* 3"}
        self.assertEqual(self.loops("f", **texts), [("h", 1), ("k", 0)])
        self.assertEqual(self.loops("g", **texts), [("g", 0), ("h", 1), ("k", 0)])
        self.assertEqual(self.loops("k", **texts), [("k", 0)])

    def test_loops_that_no_walk_comes_to(self):
        self.assertEqual(self.loops("f", f="[return; 0..* 1]"), [("f", 0)])

    def test_against_numbers(self):
        rng = generator(39)
        found = 0
        for _ in range(400):
            program = random_rings(rng) if rng.random() < 0.5 else Program(*random_program(rng))
            wanted = []
            for name in reached(program):
                loops = self.loops_in(program[name])
                for index, loop in enumerate(loops):
                    on = numbers_of(program, loop.code).through("on")
                    if loop.high is None and on is not None and on > Span(0):
                        wanted.append((name, index))
            self.assertEqual(endless_loops(program), wanted)
            found += len(wanted)
        self.assertGreater(found, 30)

    def loops_in(self, code):
        loops = [code] if isinstance(code, Loop) else []
        for part in code.parts():
            loops += self.loops_in(part)
        return loops


class WaysTest(Case):
    def test_calls_go_on_only(self):
        rng = generator(40)
        for _ in range(50):
            for numbers in called_numbers(random_rings(rng)).values():
                self.assertEqual([numbers.through(way) for way in WAYS[1:]], [None, None])
                self.assertEqual([numbers.tail(way) for way in WAYS[1:]], [None, None])


if __name__ == "__main__":
    unittest.main()
