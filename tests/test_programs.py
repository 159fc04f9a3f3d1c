"""Point 8 and stoppoints/programs.py."""

import unittest

from stoppoints.codes import Call, Either, Leave, Look, Loop, Return, Row, Stand, Work
from stoppoints.errors import InvalidCode, InvalidFunctions, InvalidName, UnknownName
from stoppoints.programs import Program, calls_of, reached, rings
from stoppoints.spans import Span
from stoppoints.walks import Walk

from cases import STRANGE, STRANGER, Case, nested, some_codes

LETTERS = "abcdefghijklmnopqrstuvwxyz"
NO_NAMES = STRANGE + [0, "abcdefghi", "aB", "a1", "a_b", " a", "a\n", "\xe9", Span(1)]
NO_CODES = STRANGER + [0, 5, "a", "[]", Span(1), Work, [Work(1)]]


def plain(many):
    """So many functions without calls."""
    return {LETTERS[k]: Work(k) for k in range(many)}


def calling(table):
    """A program of functions that call others, by a table of the names; the first one is "a"."""
    return Program("a", {name: Row(*[Call(called) for called in names]) for name, names in table.items()})


class ProgramTest(Case):
    def test_ordinary(self):
        program = Program("f", {"f": Call("g"), "g": Work(2)})
        self.assertEqual(program.first, "f")
        self.assertEqual(program["f"], Call("g"))
        self.assertEqual(program["g"], Work(2))
        self.assertEqual(len(program), 2)
        self.assertEqual(program.names(), ["f", "g"])

    def test_parameters_by_name(self):
        program = Program(functions={"f": Work(1)}, first="f")
        self.assertEqual(program.first, "f")
        self.assertEqual(program.with_function(code=Work(2), name="g")["g"], Work(2))
        self.assertEqual(program.with_first(name="f"), program)
        self.assertEqual(program(choices=[]).time, 1)

    def test_names_are_in_order(self):
        functions = {"zz": Work(1), "b": Work(2), "a": Work(3), "ab": Work(4), "z": Work(5)}
        program = Program("zz", functions)
        self.assertEqual(program.names(), ["a", "ab", "b", "z", "zz"])
        self.assertEqual(program.first, "zz")
        program.names().append("c")
        self.assertEqual(program.names(), ["a", "ab", "b", "z", "zz"])

    def test_any_code(self):
        for code in some_codes() + [nested(25)]:
            if not isinstance(code, Leave):
                program = Program("a", {name: code for name in ["a", "b", "f", "abcdefgh"]})
                self.assertEqual(program["abcdefgh"], code)

    def test_no_functions_at_all(self):
        for value in STRANGE + [5, "f", [("f", Work(1))], Work(1), Span(1)]:
            self.refuses(InvalidFunctions, {"name": None}, Program, "f", value)
            self.refuses(InvalidFunctions, {"name": None}, Program, 7, value)

    def test_12_and_13_functions(self):
        self.assertEqual(len(Program("a", plain(1))), 1)
        self.assertEqual(len(Program("a", plain(12))), 12)
        self.refuses(InvalidFunctions, {"name": None}, Program, "a", plain(13))
        self.refuses(InvalidFunctions, {"name": None}, Program, "a", {})

    def test_wrong_names(self):
        for value in [None, True, "", "A", "abcdefghi", "a1", b"a", (), ("a",), 0, "\xe9"]:
            self.refuses(InvalidFunctions, {"name": None}, Program, "a", {"a": Work(1), value: Work(1)})
            self.refuses(InvalidFunctions, {"name": None}, Program, "a", {value: Work(1), "a": Leave()})
        self.assertIn("abcdefgh", Program("abcdefgh", {"abcdefgh": Work(1)}))

    def test_wrong_codes(self):
        for value in NO_CODES + [None]:
            self.refuses(InvalidFunctions, {"name": None}, Program, "a", {"a": Work(1), "b": value})
            self.refuses(InvalidFunctions, {"name": None}, Program, "a", {"a": Leave(), "b": value})

    def test_leave_in_no_loop(self):
        for code in [Leave(), Row(Leave()), Row(Work(1), Either(Work(2), Leave())),
                     Row(Loop(0, 1, Leave()), Leave()), Row(Leave(), Loop(0, 1, Work(1)))]:
            self.refuses(InvalidFunctions, {"name": "b"}, Program, "a", {"a": Work(1), "b": code, "c": Work(1)})

    def test_leave_in_a_loop(self):
        for code in [Loop(0, 1, Leave()), Loop(0, 0, Row(Either(Work(1), Leave()))),
                     Loop(0, 1, Row(Loop(0, 1, Leave()), Leave())), Row(Work(1), Loop(1, None, Row(Leave())))]:
            self.assertEqual(Program("a", {"a": code})["a"], code)

    def test_leave_of_a_called_function(self):
        functions = {"a": Loop(0, 1, Call("b")), "b": Leave()}
        self.refuses(InvalidFunctions, {"name": "b"}, Program, "a", functions)

    def test_call_of_no_function(self):
        for code in [Call("c"), Row(Call("a"), Call("c")), Loop(0, 0, Either(Work(1), Call("abc"))), Call("aa")]:
            self.refuses(InvalidFunctions, {"name": "b"}, Program, "a", {"a": Work(1), "b": code})
        program = Program("a", {"a": Call("b"), "b": Row(Call("a"), Call("b"))})
        self.assertEqual(program["a"], Call("b"))

    def test_least_wrong_name(self):
        functions = {"d": Call("x"), "b": Leave(), "a": Work(1), "c": Call("x")}
        self.refuses(InvalidFunctions, {"name": "b"}, Program, "a", functions)
        functions = {"c": Leave(), "b": Call("x")}
        self.refuses(InvalidFunctions, {"name": "b"}, Program, "q", functions)

    def test_first(self):
        for value in NO_NAMES + ["c", "g", Work(1), ["a"]]:
            self.refuses(UnknownName, {"name": value}, Program, value, {"a": Work(1), "b": Work(2)})

    def test_items(self):
        program = Program("a", {"a": Work(1), "b": Work(2)})
        for value in NO_NAMES + ["c", ["a"], Work(1)]:
            self.refuses(UnknownName, {"name": value}, program.__getitem__, value)
            with self.assertRaises(UnknownName):
                program[value]

    def test_in(self):
        program = Program("a", {"a": Work(1), "b": Row(Look("c"), Stand())})
        self.assertIs("a" in program, True)
        self.assertIs("b" in program, True)
        for value in NO_NAMES + ["c", "ab", ["a"], Work(1), program]:
            self.assertIs(value in program, False)

    def test_equality(self):
        functions = {"a": Work(1), "b": Call("a")}
        program = Program("a", functions)
        self.assertIs(program == Program("a", {"b": Call("a"), "a": Work(1)}), True)
        self.assertIs(program != Program("a", {"b": Call("a"), "a": Work(1)}), False)
        for other in [Program("b", functions), Program("a", {"a": Work(1), "b": Work(1)}),
                      Program("a", {"a": Work(1)}), Program("a", {"a": Work(1), "c": Call("a")}),
                      Program("a", {"a": Work(2), "b": Call("a")})]:
            self.assertIs(program == other, False)
            self.assertIs(program != other, True)
        for value in STRANGE + ["a", functions, Work(1)]:
            self.assertIs(program == value, False)

    def test_functions_are_copied(self):
        functions = {"a": Work(1), "b": Work(2)}
        program = Program("a", functions)
        functions["a"] = Work(9)
        functions["c"] = Work(3)
        del functions["b"]
        self.assertEqual(program.names(), ["a", "b"])
        self.assertEqual(program["a"], Work(1))
        self.assertEqual(program, Program("a", {"a": Work(1), "b": Work(2)}))
        self.assertNotIn("c", program)

    def test_functions_stay(self):
        functions = {"b": Call("a"), "a": Work(1)}
        Program("a", functions).with_function("c", Work(1))
        self.assertEqual(list(functions.items()), [("b", Call("a")), ("a", Work(1))])

    def test_call_gives_a_walk(self):
        program = Program("a", {"a": Row(Work(1), Loop(0, 3, Call("b"))), "b": Work(2)})
        walk = program([2])
        self.assertIs(type(walk), Walk)
        self.assertEqual(walk.time, 5)


class WithTest(Case):
    def test_with_function(self):
        program = Program("a", {"a": Work(1), "b": Work(2)})
        self.assertEqual(program.with_function("a", Call("b")), Program("a", {"a": Call("b"), "b": Work(2)}))
        self.assertEqual(program.with_function("c", Work(3)),
                         Program("a", {"a": Work(1), "b": Work(2), "c": Work(3)}))
        self.assertEqual(program.with_function("c", Call("c"))["c"], Call("c"))
        self.assertEqual(program, Program("a", {"a": Work(1), "b": Work(2)}))

    def test_with_wrong_function(self):
        program = Program("a", {"a": Work(1), "b": Work(2)})
        for value in NO_NAMES:
            self.refuses(InvalidName, {"value": value}, program.with_function, value, Work(1))
            self.refuses(InvalidName, {"value": value}, program.with_function, value, 5)
        for value in NO_CODES + [None]:
            self.refuses(InvalidCode, {"value": value}, program.with_function, "a", value)
        self.refuses(InvalidFunctions, {"name": "b"}, program.with_function, "b", Leave())
        self.refuses(InvalidFunctions, {"name": "c"}, program.with_function, "c", Call("d"))
        self.assertEqual(program, Program("a", {"a": Work(1), "b": Work(2)}))

    def test_with_13_functions(self):
        program = Program("a", plain(11)).with_function("l", Work(0))
        self.assertEqual(len(program), 12)
        self.assertEqual(len(program.with_function("l", Work(1))), 12)
        self.refuses(InvalidFunctions, {"name": None}, program.with_function, "m", Work(1))
        self.refuses(InvalidFunctions, {"name": None}, program.with_function, "m", Leave())

    def test_with_first(self):
        program = Program("a", {"a": Work(1), "b": Work(2)})
        self.assertEqual(program.with_first("b"), Program("b", {"a": Work(1), "b": Work(2)}))
        self.assertEqual(program.with_first("a"), program)
        self.assertEqual(program.first, "a")
        for value in NO_NAMES + ["c", ["a"]]:
            self.refuses(UnknownName, {"name": value}, program.with_first, value)


class CallsTest(Case):
    def test_calls_of(self):
        self.assertEqual(calls_of(Work(1)), [])
        self.assertEqual(calls_of(Call("f")), ["f"])
        code = Row(Call("z"), Loop(0, 0, Either(Call("b"), Row(Call("ab"), Call("z")))), Look("q"), Call("b"))
        self.assertEqual(calls_of(code), ["ab", "b", "z"])
        self.assertEqual(calls_of(code=Row(Call("b"), Call("a"))), ["a", "b"])

    def test_reached(self):
        self.assertEqual(reached(calling({"a": []})), ["a"])
        self.assertEqual(reached(calling({"a": ["a"]})), ["a"])
        table = {"a": ["d"], "b": ["a"], "c": [], "d": ["c", "e"], "e": ["d"], "f": ["f"]}
        program = calling(table)
        self.assertEqual(reached(program), ["a", "c", "d", "e"])
        self.assertEqual(reached(program.with_first("b")), ["a", "b", "c", "d", "e"])
        self.assertEqual(reached(program.with_first("c")), ["c"])
        self.assertEqual(reached(program.with_first("e")), ["c", "d", "e"])
        self.assertEqual(reached(program=program.with_first("f")), ["f"])

    def test_calls_that_no_walk_makes(self):
        code = Row(Return(), Loop(0, 0, Call("b")))
        program = Program("a", {"a": code, "b": Call("a")})
        self.assertEqual(calls_of(code), ["b"])
        self.assertEqual(reached(program), ["a", "b"])
        self.assertEqual(rings(program), [["a", "b"]])

    def test_no_rings(self):
        self.assertEqual(rings(calling({"a": []})), [])
        self.assertEqual(rings(calling({"a": ["b", "c"], "b": ["c"], "c": []})), [])

    def test_rings(self):
        self.assertEqual(rings(calling({"a": ["a"]})), [["a"]])
        self.assertEqual(rings(calling({"a": ["b"], "b": ["a"]})), [["a", "b"]])
        self.assertEqual(rings(calling({"a": ["c"], "b": ["a"], "c": ["b"]})), [["a", "b", "c"]])
        self.assertEqual(rings(program=calling({"a": [], "b": ["b"], "c": ["c"]})), [["b"], ["c"]])

    def test_functions_that_lead_into_a_ring_or_out_of_it(self):
        table = {"a": ["b"], "b": ["c"], "c": ["b", "d"], "d": ["e"], "e": [], "f": ["f", "a"]}
        self.assertEqual(rings(calling(table)), [["b", "c"], ["f"]])

    def test_rings_that_lead_to_one_another(self):
        table = {"a": ["e"], "e": ["a", "b"], "b": ["d"], "d": ["b", "c"], "c": ["c"]}
        self.assertEqual(rings(calling(table)), [["a", "e"], ["b", "d"], ["c"]])

    def test_rings_are_by_their_first_names(self):
        table = {"d": ["c"], "c": ["d"], "a": ["f"], "f": ["a"], "b": ["b"], "e": []}
        self.assertEqual(rings(calling(table)), [["a", "f"], ["b"], ["c", "d"]])

    def test_two_circles_with_one_name_are_one_ring(self):
        table = {"a": ["b", "c"], "b": ["a"], "c": ["a"]}
        self.assertEqual(rings(calling(table)), [["a", "b", "c"]])

    def test_rings_that_the_first_function_does_not_reach(self):
        self.assertEqual(rings(calling({"a": [], "b": ["c"], "c": ["b"]})), [["b", "c"]])


if __name__ == "__main__":
    unittest.main()
