"""Point 6, its second part, and stoppoints/texts.py."""

import re
import unittest

from stoppoints.codes import Call, Either, Leave, Look, Loop, Return, Row, Stand, Work
from stoppoints.errors import InvalidFunctions, InvalidText, UnknownName
from stoppoints.programs import Program
from stoppoints.spans import Span
from stoppoints.texts import parse_code, parse_program, show_code, show_program

from cases import STRANGE, TOP, Case, nested, of_size, some_codes
from samples import generator, random_code, random_program

TEXTS = [
    (Work(0), "0"),
    (Work(5), "5"),
    (Work(10), "10"),
    (Work(TOP), "1" + "0" * 30),
    (Look("a"), "?a"),
    (Look("abcdefgh"), "?abcdefgh"),
    (Look("a", 3), "?a:3"),
    (Look("call", TOP), "?call:1" + "0" * 30),
    (Stand(), "!"),
    (Row(), "[]"),
    (Row(Work(5)), "[5]"),
    (Row(Work(5), Look("a"), Stand()), "[5; ?a; !]"),
    (Row(Row(), Row(Row())), "[[]; [[]]]"),
    (Either(Work(5), Row()), "{5 | []}"),
    (Either(Stand(), Stand(), Either(Leave(), Return())), "{! | ! | {leave | return}}"),
    (Loop(0, 3, Row(Work(5))), "0..3 [5]"),
    (Loop(2, None, Work(5)), "2..* 5"),
    (Loop(0, 0, Leave()), "0..0 leave"),
    (Loop(TOP, TOP, Work(1)), "1" + "0" * 30 + "..1" + "0" * 30 + " 1"),
    (Loop(10, 20, Loop(0, None, Call("f"))), "10..20 0..* call f"),
    (Call("f"), "call f"),
    (Call("abcdefgh"), "call abcdefgh"),
    (Call("leave"), "call leave"),
    (Call("call"), "call call"),
    (Leave(), "leave"),
    (Return(), "return"),
    (Loop(4, 4, Loop(0, 3, Either(Work(5), Row(Look("a", 2), Call("g"))))), "4..4 0..3 {5 | [?a:2; call g]}"),
]

NUMBER = "(?:0|[1-9][0-9]*)"
END = r"(?=$|[\]};]| \|)"
LEAF = re.compile(rf"(?:({NUMBER})|\?[a-z]{{1,8}}(?::([1-9][0-9]*))?|!|call [a-z]{{1,8}}|leave|return){END}")
TURNS = re.compile(rf"({NUMBER})\.\.({NUMBER}|\*) C{END}")
PARTS = re.compile(r"\[(?:C(?:; C)*)?\]|\{C(?: \| C)+\}")


def leaf(found):
    times = [int(time) for time in found.groups() if time]
    return "C" if all(time <= TOP for time in times) else "X"


def loop(found):
    low, high = found.groups()
    high = TOP if high == "*" else int(high)
    return "C" if int(low) <= high <= TOP else "X"


def is_code_text(text):
    """Whether this is the text of a code (of no great size or depth), told in another way: its codes become C."""
    if "C" in text or "\n" in text:
        return False
    text = LEAF.sub(leaf, text)
    before = None
    while text != before:
        before = text
        text = PARTS.sub("C", TURNS.sub(loop, text))
    return text == "C"


def changed(text):
    """Texts with one sign left out, put in, doubled or changed."""
    found = []
    for at in range(len(text) + 1):
        for sign in "0159az?:!.*; |[]{}C\n\t-":
            found.append(text[:at] + sign + text[at:])
            found.append(text[:at] + sign + text[at + 1:])
        found.append(text[:at] + text[at + 1:])
        found.append(text[:at] + text[at:at + 1] + text[at:])
    return found


class CodeTextTest(Case):
    def test_texts(self):
        for code, text in TEXTS:
            with self.subTest(text):
                self.same(show_code(code), text)
                self.same(parse_code(text), code)

    def test_parameters_by_name(self):
        self.assertEqual(show_code(code=Work(5)), "5")
        self.assertEqual(parse_code(text="5"), Work(5))

    def test_texts_are_read_back(self):
        for code in some_codes() + [of_size(200), nested(25), nested(24) * 7]:
            self.same(parse_code(show_code(code)), code)

    def test_texts_of_codes_by_chance(self):
        rng = generator(3)
        for _ in range(500):
            code = random_code(rng, rng.choice([2, 3, 4]), names=["f", "gg"], whole=False)
            text = show_code(code)
            self.assertTrue(is_code_text(text))
            self.same(parse_code(text), code)

    def test_texts_with_a_change(self):
        read = 0
        for _, text in TEXTS:
            for other in changed(text):
                with self.subTest(other):
                    if is_code_text(other):
                        read += 1
                        self.same(show_code(parse_code(other)), other)
                    else:
                        self.refuses(InvalidText, {"text": other}, parse_code, other)
        self.assertGreater(read, 100)

    def test_any_value(self):
        for value in STRANGE[:3] + STRANGE[6:] + [0, 5, Work(5), Span(5), b"5", ["5"]]:
            self.refuses(InvalidText, {"text": value}, parse_code, value)

    def test_no_texts(self):
        wrong = [
            "", " ", "5 ", " 5", "\n5", "5\n", "-5", "+5", "5.", "5_0", "1e3", "00", "05", "007", "\u0665", "\xb2",
            "?", "??a", "? a", "?A", "?a:", "?a:0", "?a:03", "?a:-1", "?a: 3", "?a :3", "?abcdefghi", "?a1", "?\xe9",
            "!!", "! ", "[", "]", "[ ]", "[5", "5]", "[5;]", "[;5]", "[5;6]", "[5 ;6]", "[5;  6]", "[5; 6; ]", "[5 6]",
            "[5, 6]", "[5 | 6]", "{}", "{5}", "{5 }", "{5|6}", "{5 |6}", "{5| 6}", "{5 | }", "{ | 5}", "{5; 6}",
            "(5)", "5; 6", "5 | 6", "0..", "0..3", "0..3 ", "0..35", "0..3[5]", "0..3  5", "0.3 5", "0...3 5",
            "0..03 5", "00..3 5", "3..2 5", "*..3 5", "..3 5", "0 ..3 5", "0.. 3 5", "0..** 5", "-1..3 5",
            "call", "call ", "callf", "call  f", "call F", "call f ", "call f1", "call abcdefghi", "call f g",
            "Leave", "leave ", "leaveleave", "leave;", "return 5", "returns", "stop", "f", "C",
        ]
        for text in wrong:
            with self.subTest(text):
                self.refuses(InvalidText, {"text": text}, parse_code, text)

    def test_numbers_that_are_too_great(self):
        for text in ["1" + "0" * 29 + "1", "2" + "0" * 30, "1" + "0" * 31, "9" * 5000, "0" * 5000, "1" + "0" * 19000]:
            self.refuses(InvalidText, {"text": text}, parse_code, text)
            for around in ["?a:{}", "{}..* 5", "0..{} 5", "[5; {}]"]:
                other = around.format(text)
                self.refuses(InvalidText, {"text": other}, parse_code, other)

    def test_codes_that_are_too_great(self):
        for many in [199, 200]:
            text = "[" + "; ".join(["1"] * many) + "]"
            if many == 199:
                self.assertEqual(len(parse_code(text)), 200)
            else:
                self.refuses(InvalidText, {"text": text}, parse_code, text)
        for begin, end in [("[", "]"), ("0..1 ", ""), ("{! | ", "}"), ("0..* [", "]")]:
            depth = 2 if "[" in begin and "." in begin else 1
            text = begin * (24 // depth) + "5" + end * (24 // depth)
            self.assertEqual(parse_code(text).depth(), 25)
            for many in [25, 26, 100, 2500]:
                text = begin * many + "5" + end * many
                self.refuses(InvalidText, {"text": text}, parse_code, text)

    def test_openings_without_an_end(self):
        for text in ["[" * 20000, "{" * 20000, "0..1 " * 4000, "[5; " * 5000, "!" * 20000, "5" * 20000, "?" * 9000]:
            self.refuses(InvalidText, {"text": text}, parse_code, text)


class ProgramTextTest(Case):
    def test_lines(self):
        program = Program("g", {"g": Loop(0, None, Call("f")), "abcdefgh": Row(), "f": Either(Work(5), Stand())})
        lines = ["first g", "abcdefgh = []", "f = {5 | !}", "g = 0..* call f"]
        self.assertEqual(show_program(program), lines)
        self.assertEqual(show_program(program=program), lines)
        self.assertEqual(parse_program(lines), program)
        self.assertEqual(parse_program(lines=lines), program)

    def test_lines_are_new(self):
        program = Program("f", {"f": Work(1)})
        show_program(program).append("x")
        self.assertEqual(show_program(program), ["first f", "f = 1"])
        lines = ["first f", "f = 1"]
        parse_program(lines)
        self.assertEqual(lines, ["first f", "f = 1"])

    def test_lines_are_read_back(self):
        rng = generator(4)
        for _ in range(200):
            program = Program(*random_program(rng))
            self.assertEqual(parse_program(show_program(program)), program)

    def test_order_of_functions(self):
        functions = {name: Work(1) for name in ["z", "b", "ab", "a", "aa"]}
        self.assertEqual(show_program(Program("b", functions)),
                         ["first b", "a = 1", "aa = 1", "ab = 1", "b = 1", "z = 1"])

    def test_empty_list(self):
        self.refuses(InvalidText, {"text": None}, parse_program, [])

    def test_first_line(self):
        for line in ["", "first", "first ", "first  f", " first f", "first f ", "First f", "firstf", "first F", "f = 1",
                     "first abcdefghi", "first f1", "first f g", "first f = 1", "first\tf", "f first", "second f"]:
            self.refuses(InvalidText, {"text": line}, parse_program, [line, "f = 1"])
            self.refuses(InvalidText, {"text": line}, parse_program, [line])
            self.refuses(InvalidText, {"text": line}, parse_program, [line, "wrong", "wrong"])

    def test_other_lines(self):
        for line in ["", "f", "f =", "f = ", "f= 1", "f =1", "f  = 1", "f =  1", " f = 1", "f = 1 ", "F = 1", " = 1",
                     "abcdefghi = 1", "f1 = 1", "f = 01", "f = [1;2]", "f = 1 = 1", "f = g = 1", "f := 1", "f = call",
                     "f = 1..0 1", "first f", "f == 1", "= 1", "f = {1}", "f = " + "[" * 25 + "1" + "]" * 25]:
            with self.subTest(line):
                self.refuses(InvalidText, {"text": line}, parse_program, ["first a", "a = 1", line])
                self.refuses(InvalidText, {"text": line}, parse_program, ["first a", line, "wrong"])
                self.refuses(InvalidText, {"text": line}, parse_program, ["first q", "b = 1", "a = leave", line])

    def test_order_of_lines(self):
        for lines in [["first a", "a = 1", "a = 1"], ["first a", "a = 1", "a = 2"], ["first a", "b = 1", "a = 1"],
                      ["first a", "a = 1", "c = 1", "b = 1"], ["first q", "b = leave", "a = call x"],
                      ["first a", "a = 1", "b = 1", "a = 1"]]:
            self.refuses(InvalidText, {"text": None}, parse_program, lines)

    def test_errors_of_programs(self):
        self.refuses(InvalidFunctions, {"name": None}, parse_program, ["first f"])
        names = ["a", "b", "c", "d", "e", "f", "g", "h", "i", "j", "k", "l", "m"]
        lines = [f"{name} = 1" for name in names]
        self.assertEqual(len(parse_program(["first a"] + lines[:12])), 12)
        self.refuses(InvalidFunctions, {"name": None}, parse_program, ["first a"] + lines)
        self.refuses(InvalidFunctions, {"name": "b"}, parse_program, ["first a", "a = 1", "b = leave", "c = call x"])
        self.refuses(InvalidFunctions, {"name": "c"}, parse_program, ["first q", "a = 1", "b = 1", "c = call x"])
        self.refuses(UnknownName, {"name": "q"}, parse_program, ["first q", "a = 1", "b = 1"])

    def test_13_functions_out_of_order(self):
        names = ["b", "a", "c", "d", "e", "f", "g", "h", "i", "j", "k", "l", "m"]
        self.refuses(InvalidText, {"text": None}, parse_program, ["first a"] + [f"{name} = 1" for name in names])


if __name__ == "__main__":
    unittest.main()
