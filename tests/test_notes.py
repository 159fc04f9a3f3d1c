"""Point 21, guarantee (h) of point 3 and stoppoints/notes.py."""

import unittest

from stoppoints.codes import Row, Work
from stoppoints.desks import Desk
from stoppoints.errors import (
    InvalidCode, InvalidLine, InvalidLimit, InvalidName, InvalidProgram, InvalidRule, NothingToRedo, NothingToUndo,
    OverLimit, StopError, UnknownName,
)
from stoppoints.notes import notes, read_notes
from stoppoints.programs import Program
from stoppoints.rules import Rule
from stoppoints.spans import Span
from stoppoints.texts import parse_code, show_program

from cases import STRANGE, Case, Same, of_size
from models import Failure, deed_by_chance, snapshot
from samples import generator

ENDLESS = Span.endless()


def program_of(first="f", **texts):
    return Program(first, {name: parse_code(text) for name, text in texts.items()})


FIVE = program_of(f="5")
SEVEN = program_of(f="7")
PUT_FIVE = ["put a 2", "first f", "f = 5"]


class NotesTest(Case):
    def setUp(self):
        self.desk = Desk()

    def added(self, *lines):
        """That just these lines have come to the notes since they were looked at last."""
        ahead = getattr(self, "ahead", [])
        self.assertEqual(notes(self.desk), ahead + list(lines))
        self.ahead = notes(self.desk)

    def test_each_deed(self):
        self.added()
        self.desk["a"] = FIVE
        self.added("put a 2", "first f", "f = 5")
        self.desk.put("bc", program_of("g", f="0..* [call g; ?a:3]", g="{5 | return}"))
        self.added("put bc 3", "first g", "f = 0..* [call g; ?a:3]", "g = {5 | return}")
        self.desk.set_limit("a", Span(5))
        self.added("limit a 5")
        self.desk.set_limit("a", Span(10 ** 60 - 1))
        self.added("limit a " + "9" * 60)
        self.desk.set_limit("a", ENDLESS)
        self.added("limit a endless")
        self.desk.set_limit("a", None)
        self.added("limit a none")
        self.desk.rule = Rule("rings", "none", 3)
        self.added("rule rings none 3")
        self.desk.set_rule(Rule.nowhere())
        self.added("rule none none none")
        self.desk.remove("a")
        self.added("remove a")
        self.desk.undo()
        self.added("undo")
        self.desk.redo()
        self.added("redo")
        with self.desk.trial():
            pass
        self.added("begin", "end")
        self.desk.trying(lambda: self.desk.put("a", FIVE))
        self.added("begin", *PUT_FIVE, "end")
        self.assertEqual(notes(desk=self.desk), self.ahead)

    def test_sheets(self):
        self.desk["a"] = FIVE
        sheet = self.desk.sheet("a")
        self.added(*PUT_FIVE)
        sheet.program = SEVEN
        sheet.set_program(FIVE)
        sheet.limit = Span(5)
        sheet.set_limit(None)
        self.added("put a 2", "first f", "f = 7", *PUT_FIVE, "limit a 5", "limit a none")

    def test_a_limit_of_nothing(self):
        self.desk["a"] = program_of(f="[]")
        self.desk.set_limit("a", Span(0))
        self.added("put a 2", "first f", "f = []", "limit a 0")

    def test_changes_that_leave_everything_as_it_was(self):
        for _ in range(2):
            self.desk["a"] = FIVE
            self.desk.rule = Rule.nowhere()
            self.desk.set_limit("a", None)
            self.added(*PUT_FIVE, "rule none none none", "limit a none")

    def test_refused_deeds(self):
        self.desk["a"] = FIVE
        self.desk.set_limit("a", Span(5))
        self.added(*PUT_FIVE, "limit a 5")
        for error, call, args in [
                (NothingToRedo, "redo", ()), (OverLimit, "put", ("a", SEVEN)), (InvalidName, "put", ("A", FIVE)),
                (InvalidProgram, "put", ("a", 5)), (UnknownName, "remove", ("b",)), (UnknownName, "set_limit", ("b", None)),
                (InvalidLimit, "set_limit", ("a", 5)), (OverLimit, "set_limit", ("a", Span(4))),
                (InvalidRule, "set_rule", ("none",)), (InvalidCode, "put", ("a", Program("f", {"f": of_size(200)})))]:
            if error is InvalidCode:
                self.desk.rule = Rule.at_entries()
                self.added("rule all none none")
            with self.assertRaises(error):
                getattr(self.desk, call)(*args)
            self.added()

    def test_blocks_that_are_left_by_an_error(self):
        self.desk["a"] = FIVE
        self.added(*PUT_FIVE)
        with self.assertRaises(Failure):
            with self.desk.trial():
                self.desk["b"] = FIVE
                self.desk.undo()
                with self.desk.trial():
                    self.desk["c"] = FIVE
                raise Failure()
        self.added()
        with self.assertRaises(NothingToUndo):
            self.desk.trying(self.desk.undo)
        self.added()

    def test_blocks_in_blocks(self):
        desk = self.desk
        with desk.trial():
            desk["a"] = FIVE
            with desk.trial():
                desk.set_limit("a", Span(5))
                with desk.trial():
                    pass
                desk.undo()
                desk.undo()
            with self.assertRaises(Failure):
                with desk.trial():
                    desk.remove("a")
                    raise Failure()
            with desk.trial():
                desk.remove("a")
            desk.undo()
        desk.undo()
        self.added("begin", *PUT_FIVE, "begin", "limit a 5", "begin", "end", "undo", "undo", "end", "begin", "remove a", "end",
                   "undo", "end", "undo")

    def test_notes_that_are_taken_in_a_block(self):
        self.desk["a"] = FIVE
        with self.desk.trial():
            self.added(*PUT_FIVE, "begin")
            self.desk.undo() if self.desk.undoable else self.desk.set_limit("a", ENDLESS)
            self.added("limit a endless")
            with self.desk.trial():
                self.added("begin")
                self.desk.set_limit("a", None)
                self.added("limit a none")
                taken = notes(self.desk)
            self.added("end")
            self.refuses(InvalidLine, {"index": len(self.ahead)}, read_notes, notes(self.desk))
        self.added("end")
        self.refuses(InvalidLine, {"index": len(taken)}, read_notes, taken)
        self.assertEqual(notes(read_notes(self.ahead)), self.ahead)

    def test_lists_are_new(self):
        self.desk["a"] = FIVE
        with self.desk.trial():
            pass
        notes(self.desk).clear()
        self.assertEqual(notes(self.desk), [*PUT_FIVE, "begin", "end"])


class ReadTest(Case):
    def test_nothing(self):
        desk = read_notes([])
        self.assertIsInstance(desk, Desk)
        self.assertEqual((snapshot(desk), notes(desk)), (snapshot(Desk()), []))

    def test_read_back(self):
        lines = ["rule rings none 3", *PUT_FIVE, "put b 3", "first g", "f = 0..* [call g; ?a:3]", "g = {5 | return}",
                 "limit a 5", "begin", "remove a", "begin", "end", "undo", "undo", "end", "undo", "undo", "redo",
                 "limit b endless", "limit b " + "9" * 60, "limit b none"]
        desk = read_notes(lines=lines)
        self.assertEqual(notes(desk), lines)
        self.assertEqual((desk.names(), desk.limit_of("a"), desk.limit_of("b")), (["a", "b"], Span(5), None))
        self.assertEqual(desk["b"], program_of("g", f="0..* [call g; ?a:3]", g="{5 | return}"))
        self.assertEqual((desk.rule, desk.undoable), (Rule("rings", "none", 3), 7))
        many = len(lines)
        lines.clear()
        self.assertEqual(len(notes(desk)), many)

    def test_goes_on_in_the_same_way(self):
        desk = Desk()
        desk["a"] = FIVE
        desk["b"] = SEVEN
        desk.set_limit("a", Span(6))
        desk.remove("b")
        desk["c"] = SEVEN
        desk.undo()
        desk.undo()
        other = read_notes(notes(desk))
        for one in (desk, other):
            self.refuses(OverLimit, {"name": "a", "needed": Span(7)}, one.put, "a", SEVEN)
            one.redo()
            one.redo()
            self.refuses(NothingToRedo, {}, one.redo)
            self.assertEqual((one.names(), one.undoable), (["a", "c"], 5))
            for _ in range(5):
                one.undo()
            self.refuses(NothingToUndo, {}, one.undo)
            one.redo()
        self.assertEqual(snapshot(desk), snapshot(other))
        self.assertEqual(notes(desk), notes(other))

    def test_two_desks_of_the_same_notes(self):
        one, other = read_notes(PUT_FIVE), read_notes(PUT_FIVE)
        one["b"] = FIVE
        self.assertEqual((one.names(), other.names()), (["a", "b"], ["a"]))

    def test_by_chance(self):
        refused = 0
        for seed in range(60):
            rng = generator(3000 + seed)
            desk = Desk()
            self.play_by_chance(rng, desk, 25, 0)
            other = read_notes(notes(desk))
            self.assertEqual(snapshot(other), snapshot(desk))
            self.assertEqual(notes(other), notes(desk))
            for _ in range(12):
                word, args = deed_by_chance(rng)
                told = [self.outcome(one, word, args) for one in (desk, other)]
                self.assertEqual(told[0], told[1])
                refused += told[0] is not None
                self.assertEqual(snapshot(other), snapshot(desk))
            self.assertEqual(notes(other), notes(desk))
        self.assertGreater(refused, 100)

    def play_by_chance(self, rng, desk, many, depth):
        for _ in range(rng.randint(0, many)):
            if depth < 3 and rng.random() < 0.15:
                try:
                    with desk.trial():
                        self.play_by_chance(rng, desk, many // 3, depth + 1)
                        if rng.random() < 0.3:
                            raise Failure()
                except Failure:
                    pass
            else:
                word, args = deed_by_chance(rng)
                self.outcome(desk, word, args)

    def outcome(self, desk, word, args):
        try:
            return getattr(desk, word)(*args)
        except StopError as error:
            return type(error), [value.time if isinstance(value, Span) else value for value in vars(error).values()]


class WrongLinesTest(Case):
    def wrong(self, index, *lines):
        """That the line of this index is the first wrong one, also behind other lines and ahead of others."""
        self.refuses(InvalidLine, {"index": index}, read_notes, list(lines))
        self.refuses(InvalidLine, {"index": index}, read_notes, [*lines, "no"] if index < len(lines) else list(lines))
        ahead = ["rule none none none", "begin", "rule none none 0", "end", "put z 2", "first f", "f = 1"]
        self.refuses(InvalidLine, {"index": index + len(ahead)}, read_notes, ahead + list(lines))

    def test_what_is_no_list_of_texts(self):
        for value in STRANGE + ["undo", 5, tuple(PUT_FIVE), {0: "undo"}, {"begin", "end"}, iter(PUT_FIVE), Same(), Desk(),
                                ["begin", None], [5], [[]], [Same()], ["no", b"undo"], [("begin",)], PUT_FIVE + [None]]:
            if value != []:
                self.refuses(InvalidLine, {"index": None}, read_notes, value)
        self.assertEqual(notes(read_notes([])), [])

    def test_what_is_no_deed(self):
        for line in ["", " ", "no", "names", "first f", "f = 5", "putt a 2", "Put a 2", "UNDO", "undo\n", "\tundo", "#", "end",
                     "limits a 9", "no a 9", "no a", "Limit a 9", "removed a", "rules none none none", "no none none none"]:
            self.wrong(0, line)
            self.wrong(3, *PUT_FIVE, line)

    def test_too_few_and_too_many_words(self):
        for line in ["put", "put a", "put a 2 2", "remove", "remove a a", "limit", "limit a", "limit a 9 9", "rule", "rule none",
                     "rule none none", "rule none none none none", "undo a", "undo 1", "redo a", "begin a", "end a"]:
            self.wrong(3, *PUT_FIVE, line, "first f", "f = 5")

    def test_empty_words_and_further_blanks(self):
        for line in ["put a 2 ", " put a 2", "put  a 2", "put a  2", "put  2", "put a ", "remove a ", " remove a", "remove  a",
                     "remove ", "limit a 9 ", "limit  a 9", "limit a  9", "limit a ", "limit  9", " limit a 9", "rule ",
                     "rule none none none ", "rule  none none none", " rule none none none", "rule none none ",
                     "rule none  none", "undo ", " undo", "redo ", "begin ", " begin", "end ", "remove\ta", "undo\n"]:
            self.wrong(3, *PUT_FIVE, line, "first f", "f = 5")

    def test_put(self):
        self.assertEqual(notes(read_notes(["put a 3", "first f", "f = 5", "g = 6"])), ["put a 3", "first f", "f = 5", "g = 6"])
        for lines in [
                ["put a 0"], ["put a 0", "first f", "f = 5"], ["put a 1", "first f"], ["put a 1", "first f", "f = 5"],
                ["put a 3", "first f", "f = 5"], ["put a 3", "first f", "f = 5", "undo"], ["put a 2"], ["put a 2", "first f"],
                ["put a 02", "first f", "f = 5"], ["put a +2", "first f", "f = 5"], ["put a -2", "first f", "f = 5"],
                ["put a two", "first f", "f = 5"], ["put a 2.0", "first f", "f = 5"], ["put a \u0662", "first f", "f = 5"],
                ["put a 1_0", "first f", "f = 5"], ["put a none", "first f", "f = 5"],
                ["put a " + "9" * 60, "first f", "f = 5"], ["put a 1" + "0" * 60, "first f", "f = 5"],
                ["put a " + "0" * 59 + "2", "first f", "f = 5"], ["put a " + "9" * 5000, "first f", "f = 5"],
                ["put A 2", "first f", "f = 5"], ["put abcdefghi 2", "first f", "f = 5"], ["put 2 a", "first f", "f = 5"],
                ["put a 2", "first g", "f = 5"], ["put a 2", "f = 5", "first f"], ["put a 2", "first f", "f = 05"],
                ["put a 2", "first f", "f =  5"], ["put a 2", "first f ", "f = 5"], ["put a 2", "first f", "f = 5 "],
                ["put a 2", "first f", "f = call g"], ["put a 2", "first f", "f = leave"], ["put a 2", "first f", ""],
                ["put a 3", "first f", "g = 5", "f = 5"], ["put a 3", "first f", "f = 5", "f = 5"],
                ["put a 3", "first f", "f = 5", "begin", "end"], ["put a 2", "begin", "end"]]:
            self.wrong(0, *lines)
            self.refuses(InvalidLine, {"index": 3}, read_notes, PUT_FIVE + lines)
            self.refuses(InvalidLine, {"index": 1}, read_notes, ["begin", *lines])
        names = ["abcdefghijkl"[k] for k in range(12)]
        lines = ["put a 13", "first a", *[f"{name} = 5" for name in names]]
        self.assertEqual(notes(read_notes(lines)), lines)
        self.wrong(0, "put a 14", *lines[1:], "m = 5")

    def test_limits(self):
        for word in ["05", "00", "-1", "+5", "5.0", "1_0", "", "None", "Endless", "five", "\u0665", "1" + "0" * 60, "9" * 61,
                     "0" * 60 + "9", "9" * 5000, "span"]:
            self.wrong(3, *PUT_FIVE, f"limit a {word}")
        for word in ["5", "6", "none", "endless", "9" * 60, "1" + "0" * 59]:
            self.assertEqual(notes(read_notes([*PUT_FIVE, f"limit a {word}"]))[-1], f"limit a {word}")
        self.assertEqual(read_notes([*PUT_FIVE, "limit a " + "9" * 60]).limit_of("a"), Span(10 ** 60 - 1))

    def test_rules(self):
        for text in ["none none 03", "none none -1", "none none 1" + "0" * 30, "none none all", "unknown none none",
                     "none unknown none", "None none none", "3 none none", "none none none none"]:
            self.wrong(0, f"rule {text}")
        for text in ["none all 0", "rings rings unknown", "all none " + "9" * 30]:
            self.assertEqual(notes(read_notes([f"rule {text}"])), [f"rule {text}"])

    def test_deeds_that_are_not_accepted(self):
        self.wrong(3, *PUT_FIVE, "limit a 4")
        self.wrong(4, *PUT_FIVE, "limit a 6", "put a 2", "first f", "f = 7")
        self.wrong(3, *PUT_FIVE, "remove b")
        self.wrong(3, *PUT_FIVE, "remove A")
        self.wrong(3, *PUT_FIVE, "limit b none")
        self.wrong(4, *PUT_FIVE, "remove a", "remove a")
        turns = ["rule none none 0", "put a 2", "first f", "f = 0..* 1", "limit a 1"]
        self.wrong(5, *turns, "rule none none none")
        great = show_program(Program("f", {"f": Row(*[Work(1)] * 199)}))
        self.wrong(4, "put a 2", *great, "limit a endless", "rule all none none")
        self.wrong(4, "rule all none none", "put a 2", *great, "limit a endless")
        self.assertEqual(len(notes(read_notes(["rule all none none", "put a 2", *great, "limit a none"]))), 5)

    def test_undo_and_redo(self):
        self.refuses(InvalidLine, {"index": 0}, read_notes, ["undo"])
        self.refuses(InvalidLine, {"index": 4}, read_notes, [*PUT_FIVE, "undo", "undo"])
        self.wrong(0, "redo")
        self.wrong(3, *PUT_FIVE, "redo")
        self.wrong(5, *PUT_FIVE, "undo", "redo", "redo")
        self.wrong(7, *PUT_FIVE, "undo", *PUT_FIVE, "redo")
        # In a block only what was done there can be taken back.
        self.wrong(4, *PUT_FIVE, "begin", "undo")
        self.wrong(5, *PUT_FIVE, "undo", "begin", "redo", "end")
        self.wrong(6, *PUT_FIVE, "undo", "begin", "end", "redo")
        self.wrong(7, "begin", "rule all none none", "undo", "redo", "rule none none none", "end", "undo", "begin x")

    def test_blocks(self):
        self.wrong(0, "end")
        self.wrong(2, "begin", "end", "end")
        self.wrong(3, *PUT_FIVE, "end", "begin")
        self.wrong(1, "begin", "no", "end")
        self.wrong(2, "begin", "begin", "no")
        for lines in [["begin"], [*PUT_FIVE, "begin"], ["begin", *PUT_FIVE], ["begin", "begin", "end"], ["begin", "end", "begin"],
                      ["begin"] * 20, ["begin"] * 20 + ["end"] * 19]:
            self.refuses(InvalidLine, {"index": len(lines)}, read_notes, lines)
        # The put is not written as it has to be: this comes ahead of the end that is missing.
        self.refuses(InvalidLine, {"index": 1}, read_notes, ["begin", "put a 2", "first f"])

    def test_twenty_blocks_and_twenty_one(self):
        lines = ["begin"] * 20 + PUT_FIVE + ["end"] * 20
        self.assertEqual(notes(read_notes(lines)), lines)
        self.wrong(20, *["begin"] * 21, *["end"] * 21)
        self.wrong(20, *["begin"] * 21)
        self.wrong(22, *["begin"] * 20, "end", *["begin"] * 2)
        lines = ["begin"] * 20 + ["end"] * 10 + ["begin"] * 10 + ["end"] * 20 + ["begin", "end"] * 30
        self.assertEqual(notes(read_notes(lines)), lines)

    def test_the_first_one_of_several(self):
        self.refuses(InvalidLine, {"index": 1}, read_notes, ["begin", "no", "put", "end", "end"])
        self.refuses(InvalidLine, {"index": 3}, read_notes, [*PUT_FIVE, "limit a 4", "no"])

    def test_lists_stay(self):
        lines = [*PUT_FIVE, "limit a 9", "no"]
        self.refuses(InvalidLine, {"index": 4}, read_notes, lines)
        self.assertEqual(lines, [*PUT_FIVE, "limit a 9", "no"])


if __name__ == "__main__":
    unittest.main()
