"""Point 22 and stoppoints/console.py."""

import unittest

from stoppoints.console import Console
from stoppoints.desks import Desk
from stoppoints.errors import (
    InvalidCode, InvalidCommand, InvalidName, InvalidPlace, InvalidRule, InvalidText, LimitExceeded, NothingToRedo,
    NothingToUndo, OverLimit, StopError, UnknownName,
)
from stoppoints.notes import notes
from stoppoints.places import placed, places_of
from stoppoints.placings import Placings
from stoppoints.programs import Program
from stoppoints.rules import Rule
from stoppoints.spans import Span
from stoppoints.texts import parse_code, show_program

from cases import TOP, Case, of_size
from models import snapshot
from samples import generator, random_program, random_rings

ENDLESS = Span.endless()


def program_of(first="f", **texts):
    return Program(first, {name: parse_code(text) for name, text in texts.items()})


class ConsoleCase(Case):
    def setUp(self):
        self.desk = Desk()
        self.console = Console(self.desk)
        self.desk["b"] = program_of(f="0..* [1; 2]")
        self.desk["a"] = program_of(f="[2; call g; 4]", g="{1 | [3; return]}", h="7")

    def says(self, line, answer):
        self.same(self.console(line), answer)

    def refused(self, error, told, *lines):
        """That each of the lines is refused, and nothing has changed then."""
        for line in lines:
            now = (snapshot(self.desk), notes(self.desk))
            self.refuses(error, told, self.console, line)
            self.assertEqual(list(self.console.answers([line])), ["refused"])
            self.assertEqual((snapshot(self.desk), notes(self.desk)), now)


class AskTest(ConsoleCase):
    def test_names(self):
        self.says("names", "b a")
        self.desk.remove("b")
        self.says("names", "a")
        self.assertEqual(Console(Desk())("names"), "")

    def test_span(self):
        self.says("span b", "endless")
        self.says("span a", "9")
        self.desk.rule = Rule.at_backs()
        self.says("span b", "3")
        self.desk["a"] = program_of(f="[]")
        self.says("span a", "0")
        self.refused(UnknownName, {"name": "c"}, "span c")
        self.refused(UnknownName, {"name": "A"}, "span A")
        self.refused(UnknownName, {"name": ""}, "span ")

    def test_great_spans(self):
        self.desk["a"] = program_of(f=f"[{TOP - 1}..{TOP - 1} {TOP}; {TOP - 1}; {TOP}]")
        self.says("span a", "beyond")
        self.desk["a"] = program_of(f=f"{TOP}..{TOP} {TOP}")
        self.says("span a", "beyond")
        self.desk["a"] = program_of(f=f"[{TOP - 1}..{TOP - 1} {TOP}; {TOP - 1}]")
        self.says("span a", "9" * 30 + str(TOP - 1))
        self.says("span a", str(10 ** 60 - 1))
        self.desk["a"] = program_of(f=f"{TOP}..{TOP} {TOP}..{TOP} {TOP}..{TOP} {TOP}")
        self.says("span a", "beyond")

    def test_table(self):
        self.says("table", "b          1     endless        none\n"
                           "a          3           9        none")
        self.desk["abcdefgh"] = program_of(f="12345678901", g="1")
        self.desk.set_limit("abcdefgh", Span(123456789012))
        self.desk.set_limit("a", Span(9))
        self.desk.set_limit("b", ENDLESS)
        self.says("table", "b          1     endless     endless\n"
                           "a          3           9           9\n"
                           "abcdefgh   2 12345678901123456789012")
        self.desk.remove("a")
        self.desk.remove("b")
        self.desk["abcdefgh"] = program_of(f="123456789012")
        self.says("table", "abcdefgh   1123456789012123456789012")
        self.desk.set_limit("abcdefgh", Span(1234567890123))
        self.desk["abcdefgh"] = program_of(f="1234567890123")
        self.says("table", "abcdefgh   112345678901231234567890123")
        self.desk["z"] = program_of(f=f"{TOP}..{TOP} {TOP}")
        self.says("table", "abcdefgh   112345678901231234567890123\n"
                           "z          1      beyond        none")
        self.assertEqual(Console(Desk())("table"), "")

    def test_table_of_twelve_functions(self):
        self.desk = Desk()
        self.desk["x"] = Program("a", {"abcdefghijkl"[k]: parse_code("0") for k in range(12)})
        self.desk.set_limit("x", Span(0))
        self.console = Console(self.desk)
        self.says("table", "x         12           0           0")

    def test_spans_of_codes_that_are_too_great_under_the_rule(self):
        self.desk["c"] = Program("f", {"f": of_size(199)})
        self.says("span c", "198")
        self.says("rule all none none", "ruled")
        self.refused(InvalidCode, {"value": None}, "span c", "table")
        self.says("span a", "7")

    def test_fewest(self):
        self.says("fewest a 9", "fewest 0")
        self.says("fewest a 7", "fewest 1")
        self.says("fewest a 5", "fewest 2")
        self.says("fewest a 3", "never")
        self.says("fewest a none", "fewest 0")
        self.says("fewest a endless", "fewest 0")
        self.says("fewest b none", "fewest 1")
        self.says("fewest b endless", "fewest 0")
        self.says("fewest b 3", "fewest 1")
        self.says("fewest b 2", "fewest 2")
        self.says("fewest b 1", "never")
        self.says("fewest b " + "9" * 60, "fewest 1")
        self.refused(UnknownName, {"name": "c"}, "fewest c 5")

    def test_fewest_is_without_the_rule(self):
        self.desk.rule = Rule.at_backs()
        self.says("span b", "3")
        self.says("fewest b none", "fewest 1")
        self.says("fewest b 3", "fewest 1")
        # What is too great under the rule may be asked for, but not what is too great with all looks.
        self.desk["c"] = Program("f", {"f": parse_code("[" + "; ".join(["?a"] * 195) + "; 5; 6]")})
        self.refused(InvalidCode, {"value": None}, "fewest c 5")
        self.desk["c"] = Program("f", {"f": parse_code("[" + "; ".join(["?a"] * 196) + "; 5]")})
        self.desk.rule = Rule.at_entries()
        self.says("span c", "5")
        self.says("fewest c 5", "fewest 0")

    def test_fewest_of_no_works_and_of_ten_and_eleven(self):
        self.desk["c"] = program_of(f="0..* [?a; !]")
        self.says("fewest c none", "fewest 0")
        self.says("fewest c 0", "fewest 0")
        self.desk["c"] = program_of(f="?a:3")
        self.says("fewest c 2", "never")
        ones = "; ".join(["1"] * 5)
        self.desk["c"] = program_of(f=f"[{ones}; call g]", g=f"[{ones}]")
        self.says("fewest c 4", "fewest 2")
        self.desk["c"] = program_of(f=f"[{ones}; call g]", g=f"[{ones}]", h="1")
        self.refused(LimitExceeded, {"limit": 10}, "fewest c 4", "fewest c none", "fewest c endless")

    def test_fewest_by_chance(self):
        rng = generator(221)
        told = {}
        for k in range(150):
            program = random_rings(rng) if k % 2 else Program(*random_program(rng))
            works = places_of(program, "work")
            if len(works) <= 10:
                self.desk["a"] = program
                word = rng.choice(["none", "endless", "0", "2", "5", "9", "20"])
                limit = None if word == "none" else ENDLESS if word == "endless" else Span(int(word))
                fewest = Placings(program, works, limit=limit).fewest()
                self.says(f"fewest a {word}", "never" if fewest is None else f"fewest {fewest}")
                told[fewest] = True
        self.assertGreater(len(told), 3)

    def test_asking_changes_nothing(self):
        now = (snapshot(self.desk), notes(self.desk))
        for line in ["names", "span a", "table", "fewest a 5"]:
            self.console(line)
        self.assertEqual((snapshot(self.desk), notes(self.desk)), now)


class ChangeTest(ConsoleCase):
    def test_limit(self):
        for word, limit in [("9", Span(9)), ("endless", ENDLESS), ("none", None), ("9" * 60, Span(10 ** 60 - 1)),
                            ("1" + "0" * 29, Span(10 ** 29))]:
            self.says(f"limit a {word}", "limited")
            self.same(self.desk.limit_of("a"), limit)
        self.assertEqual(self.desk.undoable, 7)
        self.refused(OverLimit, {"name": "a", "needed": Span(9)}, "limit a 8", "limit a 0")
        self.refused(OverLimit, {"name": "b", "needed": ENDLESS}, "limit b " + "9" * 60)
        self.refused(UnknownName, {"name": "c"}, "limit c 9", "limit c none")
        self.refused(UnknownName, {"name": ""}, "limit  9")

    def test_rule(self):
        for text in ["rings none 3", "all all 0", "none rings unknown", "none none " + "9" * 30, "none none none"]:
            self.says(f"rule {text}", "ruled")
            self.assertEqual(notes(self.desk)[-1], f"rule {text}")
        self.says("rule none none 0", "ruled")
        self.assertEqual(self.desk.rule, Rule.at_backs())
        self.says("limit b 3", "limited")
        self.refused(OverLimit, {"name": "b", "needed": ENDLESS}, "rule none none none", "rule rings none none")

    def test_words_of_a_rule(self):
        for word in ["", "no", "unknown", "3", "None", "none,", "all\n"]:
            self.refused(InvalidRule, {"value": word}, f"rule {word} none none", f"rule {word} no no", f"rule none {word} none",
                         f"rule none {word} no")
        for word in ["", "no", "all", "rings", "03", "00", "-1", "+1", "1.0", "1_0", "1" + "0" * 30, "9" * 31, "9" * 60, "9" * 61,
                     "\u0663", "0" * 29 + "3", "9" * 5000]:
            self.refused(InvalidRule, {"value": word}, f"rule none none {word}", f"rule all rings {word}")

    def test_copy(self):
        self.says("copy a c", "put c")
        self.assertEqual((self.desk["c"], self.desk.names()), (self.desk["a"], ["b", "a", "c"]))
        self.says("copy a b", "put b")
        self.assertEqual((self.desk["b"], self.desk.names()), (self.desk["a"], ["b", "a", "c"]))
        undoable = self.desk.undoable
        self.says("copy a a", "put a")
        self.assertEqual((self.desk.undoable, self.desk.names()), (undoable + 1, ["b", "a", "c"]))
        self.refused(UnknownName, {"name": "d"}, "copy d e", "copy d A", "copy d ", "copy d d", "copy d a")
        self.refused(UnknownName, {"name": ""}, "copy  a", "copy  ")
        self.refused(InvalidName, {"value": "A"}, "copy a A")
        self.refused(InvalidName, {"value": ""}, "copy a ")
        self.refused(InvalidName, {"value": "abcdefghi"}, "copy a abcdefghi")

    def test_copy_keeps_the_limit_of_the_name(self):
        self.desk.set_limit("a", Span(10))
        self.refused(OverLimit, {"name": "a", "needed": ENDLESS}, "copy b a")
        self.says("copy a c", "put c")
        self.assertIsNone(self.desk.limit_of("c"))

    def test_place(self):
        for kind, function, index, text in [
                ("entry", "f", 0, "[?entry; [2; call g; 4]]"), ("work", "f", 1, "[2; call g; [4; ?work]]"),
                ("finish", "f", 0, "[[2; call g; 4]; ?finish]"), ("finish", "g", 0, "[{1 | [3; [?finish; return]]}; ?finish]")]:
            program = self.desk["a"]
            self.says(f"place a {kind} {function} {index}", "put a")
            self.assertEqual(self.desk["a"], placed(program, [(kind, function, index)]))
            self.assertIn(f"{function} = {text}", show_program(self.desk["a"]))
            self.desk.undo()
        self.says("place b back f 0", "put b")
        self.assertEqual(show_program(self.desk["b"]), ["first f", "f = 0..* [[1; 2]; ?back]"])
        self.says("place b work f 1", "put b")
        self.assertEqual(show_program(self.desk["b"]), ["first f", "f = 0..* [[1; [2; ?work]]; ?back]"])

    def test_wrong_places(self):
        for kind, function, index in [
                ("entry", "f", 1), ("work", "f", 2), ("work", "f", 10 ** 60 - 1), ("back", "f", 0), ("finish", "g", 1),
                ("works", "f", 0), ("", "f", 0), ("work", "k", 0), ("work", "", 0), ("f", "work", 0)]:
            self.refused(InvalidPlace, {"value": (kind, function, index)}, f"place a {kind} {function} {index}")
        self.refused(UnknownName, {"name": "c"}, "place c work f 0", "place c no no 7")
        self.refused(UnknownName, {"name": ""}, "place  work f 0")

    def test_place_at_limits(self):
        self.desk["c"] = Program("f", {"f": of_size(199)})
        self.refused(InvalidCode, {"value": None}, "place c work f 0", "place c entry f 0")
        self.desk["c"] = program_of(f="[1; return]")
        self.says("rule none none none", "ruled")
        self.desk.set_limit("c", Span(1))
        self.says("place c finish f 0", "put c")
        self.assertEqual(self.desk.limit_of("c"), Span(1))

    def test_undo_and_redo(self):
        self.says("undo", "undone")
        self.assertEqual(self.desk.names(), ["b"])
        self.says("undo", "undone")
        self.refused(NothingToUndo, {}, "undo")
        self.says("redo", "redone")
        self.says("redo", "redone")
        self.refused(NothingToRedo, {}, "redo")
        self.assertEqual(self.desk.names(), ["b", "a"])


class WordsTest(ConsoleCase):
    def test_unknown_commands(self):
        for line in ["no", "Names", "put a", "remove a", "begin", "end", "a b c", "namess", "no a b c d e f g", "span\ta", "names\n"]:
            self.refused(InvalidCommand, {"command": line.split(" ")[0]}, line)

    def test_empty_lines_and_blanks(self):
        for line in ["", " ", "  ", " names", "  names", " span a"]:
            self.refused(InvalidCommand, {"command": ""}, line)

    def test_a_word_less_and_more(self):
        for line in ["names", "span a", "table", "limit a none", "rule none none none", "copy a c", "place a work f 0",
                     "fewest a 9", "undo", "redo"]:
            word = line.split(" ")[0]
            less = [line.rpartition(" ")[0]] if " " in line else []
            self.refused(InvalidCommand, {"command": word}, *less, f"{line} a", f"{line} ", f"{word}  {line[len(word):].strip()}",
                         f"{line} {line}")

    def test_the_command_comes_ahead_of_its_words(self):
        self.refused(InvalidCommand, {"command": "limit"}, "limit c", "limit A 05 no", "limit a  05")
        self.refused(InvalidCommand, {"command": "rule"}, "rule no", "rule no no no no")
        self.refused(InvalidCommand, {"command": "place"}, "place c no no", "place c no no 05 no")

    def test_numbers(self):
        for word in ["05", "00", "-1", "+1", "-0", "1.0", "1_0", "", "five", "0x1", "\u0663", "\xb2", "1" + "0" * 60, "9" * 61,
                     "0" * 59 + "9", "0" * 60 + "9", "9" * 5000, "none", "endless", "None", "9\n"]:
            # This comes ahead of names that are not there.
            self.refused(InvalidText, {"text": word}, f"place a work f {word}", f"place c no no {word}", f"place A  x {word}")
            if word not in ("none", "endless"):
                self.refused(InvalidText, {"text": word}, f"limit a {word}", f"limit c {word}", f"fewest a {word}",
                             f"fewest c {word}")
        for word in ["1" + "0" * 29, "9" * 30, "9" * 60]:
            self.says(f"limit a {word}", "limited")
            self.assertEqual(self.desk.limit_of("a"), Span(int(word)))
            self.says(f"fewest a {word}", "fewest 0")
            self.refused(InvalidPlace, {"value": ("work", "f", int(word))}, f"place a work f {word}")
        self.says("place a work f 0", "put a")


class AnswersTest(ConsoleCase):
    def test_answers(self):
        lines = ["names", "no", "limit a 9", "limit a 8", "rule none none 0", "", "span b", "undo", "undo", "redo", "redo", "redo"]
        self.assertEqual(list(self.console.answers(lines)), [
            "b a", "refused", "limited", "refused", "ruled", "refused", "3", "undone", "undone", "redone", "redone", "refused"])
        self.assertEqual(lines[1], "no")
        self.assertEqual(list(self.console.answers(lines=[])), [])

    def test_one_by_one(self):
        answers = self.console.answers(["undo", "no", "undo", "undo", "redo"])
        self.assertEqual(self.desk.names(), ["b", "a"])
        for answer, names in [("undone", ["b"]), ("refused", ["b"]), ("undone", []), ("refused", []), ("redone", ["b"])]:
            self.assertEqual(next(answers), answer)
            self.assertEqual(self.desk.names(), names)
        self.assertEqual(list(answers), [])

    def test_what_is_done_between_answers(self):
        answers = self.console.answers(["names", "names"])
        self.assertEqual(next(answers), "b a")
        self.desk.remove("a")
        self.assertEqual(next(answers), "b")

    def test_all_errors_of_the_package_are_refused(self):
        self.desk["c"] = Program("f", {"f": of_size(199)})
        lines = ["no", "span d", "limit a 05", "rule no no no", "copy a A", "place a work f 9", "place c work f 0", "limit b 5",
                 "redo", "fewest c 5"]
        kinds = []
        for line in lines:
            with self.assertRaises(StopError) as caught:
                self.console(line)
            kinds.append(type(caught.exception))
        self.assertEqual(kinds, [InvalidCommand, UnknownName, InvalidText, InvalidRule, InvalidName, InvalidPlace, InvalidCode,
                                 OverLimit, NothingToRedo, LimitExceeded])
        self.assertEqual(list(self.console.answers(lines)), ["refused"] * len(lines))


class DesksTest(ConsoleCase):
    def test_two_consoles_of_one_desk(self):
        other = Console(desk=self.desk)
        self.assertEqual(self.console("copy a c"), "put c")
        self.assertEqual(other("names"), "b a c")
        self.assertEqual(other(line="undo"), "undone")
        self.says("names", "b a")
        self.desk.remove("b")
        self.says("names", "a")
        self.assertEqual(other("undo"), "undone")
        self.says("names", "b a")

    def test_lines_in_blocks(self):
        self.refused(NothingToRedo, {}, "redo")
        with self.assertRaises(OverLimit):
            with self.desk.trial():
                self.refused(NothingToUndo, {}, "undo")
                self.says("copy a c", "put c")
                self.console("limit b 9")
        self.says("names", "b a")
        with self.desk.trial():
            self.says("copy a c", "put c")
            self.says("undo", "undone")
            self.says("redo", "redone")
        self.assertEqual(notes(self.desk)[-8:], [
            "put c 4", "first f", "f = [2; call g; 4]", "g = {1 | [3; return]}", "h = 7", "undo", "redo", "end"])
        self.says("undo", "undone")
        self.says("names", "b a")


if __name__ == "__main__":
    unittest.main()
