"""Point 20, guarantee (h) of point 3 and stoppoints/desks.py."""

import unittest

from stoppoints.desks import Desk, Sheet
from stoppoints.errors import (
    InvalidCode, InvalidLimit, InvalidName, InvalidProgram, InvalidRule, LimitExceeded, NothingToRedo, NothingToUndo,
    OverLimit, StopError, UnknownName,
)
from stoppoints.notes import notes
from stoppoints.programs import Program
from stoppoints.rules import Rule
from stoppoints.spans import Span
from stoppoints.texts import parse_code

from cases import STRANGE, STRANGER, TOP, Case, Same, nested, of_size
from models import Failure, Model, deed_by_chance, snapshot
from samples import generator

ENDLESS = Span.endless()


def program_of(first="f", **texts):
    return Program(first, {name: parse_code(text) for name, text in texts.items()})


FIVE = program_of(f="5")
SEVEN = program_of(f="7")
TURNS = program_of(f="0..* [1; 2]")
# With a look at its entry its code is too great.
GREAT = Program("f", {"f": of_size(199)})


class DeskCase(Case):
    def setUp(self):
        self.desk = Desk()

    def get_item(self, name):
        return self.desk[name]

    def set_item(self, name, program):
        self.desk[name] = program

    def same_as(self, wanted):
        """That the desk is still as in a snapshot with its notes."""
        self.assertEqual((snapshot(self.desk), notes(self.desk)), wanted)

    def now(self):
        return snapshot(self.desk), notes(self.desk)

    def refused(self, error, told, call, *args, **named):
        """The same as refuses, and that nothing has changed then."""
        now = self.now()
        self.refuses(error, told, call, *args, **named)
        self.same_as(now)


class ProgramsTest(DeskCase):
    def test_empty(self):
        self.assertEqual((self.desk.names(), len(self.desk), self.desk.undoable), ([], 0, 0))
        self.assertEqual(self.desk.rule, Rule.nowhere())
        self.assertNotIn("a", self.desk)

    def test_set(self):
        self.desk["b"] = FIVE
        self.assertIsNone(self.desk.put("a", SEVEN))
        self.assertIsNone(self.desk.put(program=TURNS, name="c"))
        self.assertEqual([self.desk[name] for name in "bac"], [FIVE, SEVEN, TURNS])
        self.assertEqual((self.desk.names(), len(self.desk)), (["b", "a", "c"], 3))
        self.assertIs("a" in self.desk, True)
        for value in STRANGE + ["d", 0, "A", Same(), ("a",), FIVE, b"a"]:
            self.assertIs(value in self.desk, False)

    def test_the_order_of_names(self):
        for name in "bac":
            self.desk[name] = FIVE
        self.desk["a"] = SEVEN
        self.assertEqual(self.desk.names(), ["b", "a", "c"])
        self.assertIsNone(self.desk.remove("b"))
        self.assertEqual(self.desk.names(), ["a", "c"])
        self.desk["b"] = FIVE
        self.assertEqual(self.desk.names(), ["a", "c", "b"])
        self.desk.remove(name="c")
        self.assertEqual(self.desk.names(), ["a", "b"])
        for wanted in [["a", "c", "b"], ["a", "c"], ["b", "a", "c"], ["b", "a", "c"], ["b", "a"], ["b"], []]:
            self.desk.undo()
            self.assertEqual(self.desk.names(), wanted)

    def test_lists_are_new(self):
        self.desk["a"] = FIVE
        self.desk.names().clear()
        self.assertEqual(self.desk.names(), ["a"])

    def test_it_is_not_iterated_over(self):
        with self.assertRaises(TypeError):
            list(self.desk)

    def test_wrong_names_and_programs(self):
        self.desk["a"] = FIVE
        for name in STRANGE + [0, "abcdefghi", "a b", "\xe4", "aB", Same(), ("a",), FIVE]:
            self.refused(InvalidName, {"value": name}, self.desk.put, name, "no")
            self.refused(InvalidName, {"value": name}, self.set_item, name, FIVE)
        for value in STRANGE + [0, Same(), FIVE["f"], {"f": FIVE["f"]}, self.desk, Program, "f"]:
            self.refused(InvalidProgram, {"value": value}, self.desk.put, "a", value)
            self.refused(InvalidProgram, {"value": value}, self.set_item, "b", value)

    def test_names_that_the_desk_does_not_have(self):
        self.desk["a"] = FIVE
        for value in STRANGE + ["b", 0, "A", Same(), ("a",), ["a"], {"a"}, b"a", "aa"]:
            for call in [self.get_item, self.desk.remove, self.desk.limit_of, self.desk.span_for, self.desk.sheet]:
                self.refused(UnknownName, {"name": value}, call, value)
            self.refused(UnknownName, {"name": value}, self.desk.set_limit, value, "no")

    def test_other_desks(self):
        other = Desk()
        self.desk["a"] = FIVE
        with other.trial():
            other.rule = Rule.at_entries()
            self.desk["b"] = FIVE
            self.assertEqual((other.undoable, self.desk.undoable), (1, 2))
        self.assertEqual((other.names(), self.desk.names()), ([], ["a", "b"]))
        self.assertEqual(self.desk.rule, Rule.nowhere())


class LimitsTest(DeskCase):
    def test_limits(self):
        self.desk["a"] = FIVE
        self.assertIsNone(self.desk.limit_of("a"))
        for limit in [ENDLESS, Span(5), None, Span(10 ** 60 - 1), Span(10 ** 30), ENDLESS, None]:
            self.assertIsNone(self.desk.set_limit("a", limit))
            self.same(self.desk.limit_of("a"), limit)
        self.desk.set_limit(limit=Span(6), name="a")
        self.assertEqual(self.desk.limit_of(name="a"), Span(6))

    def test_a_limit_of_nothing(self):
        self.desk["a"] = program_of(f="[?a; !]")
        self.desk.set_limit("a", Span(0))
        self.refused(OverLimit, {"name": "a", "needed": Span(1)}, self.desk.put, "a", program_of(f="1"))

    def test_values_that_are_no_limits(self):
        self.desk["a"] = FIVE
        for value in STRANGER + [0, 5, -1, 10 ** 60, Span(10 ** 60), Span(10 ** 60 + 1), Span(10 ** 90), Same(), "none",
                                 "endless", FIVE]:
            self.refused(InvalidLimit, {"value": value}, self.desk.set_limit, "a", value)

    def test_the_span_at_the_limit_and_above_it(self):
        self.desk["a"] = FIVE
        self.desk.set_limit("a", Span(5))
        self.refused(OverLimit, {"name": "a", "needed": Span(5)}, self.desk.set_limit, "a", Span(4))
        self.desk.put("a", program_of(f="[1; 4]"))
        self.refused(OverLimit, {"name": "a", "needed": Span(6)}, self.desk.put, "a", program_of(f="[2; 4]"))
        self.refused(OverLimit, {"name": "a", "needed": ENDLESS}, self.set_item, "a", TURNS)
        self.desk.set_limit("a", Span(10 ** 60 - 1))
        self.refused(OverLimit, {"name": "a", "needed": ENDLESS}, self.desk.put, "a", TURNS)
        self.desk.set_limit("a", ENDLESS)
        self.desk["a"] = TURNS
        self.refused(OverLimit, {"name": "a", "needed": ENDLESS}, self.desk.set_limit, "a", Span(10 ** 60 - 1))
        self.desk.set_limit("a", None)

    def test_great_spans(self):
        great = program_of(f=f"{TOP}..{TOP} {TOP}")
        self.desk["a"] = great
        self.refused(OverLimit, {"name": "a", "needed": Span(10 ** 60)}, self.desk.set_limit, "a", Span(10 ** 60 - 1))
        self.desk["a"] = program_of(f=f"[{TOP - 1}..{TOP - 1} {TOP}; {TOP - 1}]")
        self.desk.set_limit("a", Span(10 ** 60 - 1))
        self.refused(OverLimit, {"name": "a", "needed": Span(10 ** 60)}, self.desk.put, "a", great)

    def test_a_name_that_is_set_again_keeps_its_limit(self):
        self.desk["a"] = FIVE
        self.desk.set_limit("a", Span(6))
        self.desk["a"] = program_of(f="6")
        self.assertEqual(self.desk.limit_of("a"), Span(6))
        self.refused(OverLimit, {"name": "a", "needed": Span(7)}, self.desk.put, "a", SEVEN)

    def test_a_name_that_is_removed_and_set_again_has_none(self):
        self.desk["a"] = FIVE
        self.desk.set_limit("a", Span(6))
        self.desk.remove("a")
        self.desk["a"] = SEVEN
        self.assertIsNone(self.desk.limit_of("a"))
        for limit, program in [(None, None), (Span(6), FIVE), (None, FIVE)]:
            self.desk.undo()
            if program is not None:
                self.assertEqual((self.desk.limit_of("a"), self.desk["a"]), (limit, program))
            else:
                self.assertNotIn("a", self.desk)

    def test_codes_that_become_too_great_under_the_rule(self):
        self.desk["a"] = GREAT
        self.assertEqual(self.desk.span_for("a"), Span(198))
        self.desk.rule = Rule.at_entries()
        # Without a limit this may be, but there is no span.
        self.assertEqual(self.desk["a"], GREAT)
        self.refused(InvalidCode, {"value": None}, self.desk.span_for, "a")
        for limit in [ENDLESS, Span(0), Span(10 ** 60 - 1)]:
            self.refused(InvalidCode, {"value": None}, self.desk.set_limit, "a", limit)
        self.desk.set_limit("a", None)
        self.desk["b"] = FIVE
        self.desk.set_limit("b", ENDLESS)
        self.refused(InvalidCode, {"value": None}, self.desk.put, "b", GREAT)
        self.refused(InvalidCode, {"value": None}, self.set_item, "b", Program("f", {"f": nested(25), "g": FIVE["f"]}))
        self.desk.rule = Rule.nowhere()
        self.desk["b"] = GREAT
        self.refused(InvalidCode, {"value": None}, self.desk.set_rule, Rule.at_entries())

    def test_span_under_the_rule(self):
        self.desk["a"] = TURNS
        self.assertEqual(self.desk.span_for(name="a"), ENDLESS)
        self.desk.rule = Rule.at_backs()
        self.assertEqual(self.desk.span_for("a"), Span(3))
        self.desk.set_limit("a", Span(3))
        self.refused(OverLimit, {"name": "a", "needed": ENDLESS}, self.desk.set_rule, Rule.nowhere())
        self.refused(OverLimit, {"name": "a", "needed": Span(4)}, self.desk.put, "a", program_of(f="[2..3 2; 4]"))
        self.desk["a"] = program_of(f="[2..3 2; 3]")


class RulesTest(DeskCase):
    def assign(self, rule):
        self.desk.rule = rule

    def test_rules(self):
        rule = Rule("rings", "none", 3)
        self.desk.rule = rule
        self.assertEqual(self.desk.rule, rule)
        self.assertIsNone(self.desk.set_rule(Rule.at_entries()))
        self.assertEqual(self.desk.rule, Rule.at_entries())
        self.desk.set_rule(rule=Rule.nowhere())
        self.assertEqual(self.desk.undoable, 3)

    def test_values_that_are_no_rules(self):
        self.desk["a"] = FIVE
        for value in STRANGE + [0, "none none none", ("none", "none", "none"), Same(), Rule, FIVE]:
            self.refused(InvalidRule, {"value": value}, self.desk.set_rule, value)
            self.refused(InvalidRule, {"value": value}, self.assign, value)

    def test_of_several_names_the_first_in_order(self):
        self.desk.rule = Rule.at_backs()
        for name in "dcba":
            self.desk[name] = program_of(f=f"0..{ord(name)} 1")
        for name in "ba":
            self.desk.set_limit(name, Span(50))
        self.refused(OverLimit, {"name": "b", "needed": Span(98)}, self.desk.set_rule, Rule.nowhere())
        self.desk.set_limit("c", Span(99))
        self.refused(OverLimit, {"name": "b", "needed": Span(98)}, self.desk.set_rule, Rule.nowhere())
        self.desk.set_limit("c", Span(98))
        self.refused(OverLimit, {"name": "c", "needed": Span(99)}, self.desk.set_rule, Rule.nowhere())
        # A name that is removed and set again comes last.
        self.desk.remove("c")
        self.desk["c"] = program_of(f="0..* 1")
        self.desk.set_limit("c", Span(3))
        self.refused(OverLimit, {"name": "b", "needed": Span(98)}, self.desk.set_rule, Rule.nowhere())
        self.desk.set_limit("b", None)
        self.refused(OverLimit, {"name": "a", "needed": Span(97)}, self.desk.set_rule, Rule.nowhere())
        self.desk.set_limit("a", Span(97))
        self.refused(OverLimit, {"name": "c", "needed": ENDLESS}, self.desk.set_rule, Rule.nowhere())
        self.desk.set_limit("c", ENDLESS)
        self.desk.set_rule(Rule.nowhere())

    def test_errors_of_both_kinds_in_the_order_of_names(self):
        for names, error, told in [("abc", InvalidCode, {"value": None}), ("bac", OverLimit, {"name": "b", "needed": Span(8)})]:
            self.desk = Desk()
            self.desk.rule = Rule.at_backs()
            for name in names:
                self.desk[name] = GREAT if name == "a" else program_of(f="0..8 1")
                self.desk.set_limit(name, Span(198) if name == "a" else Span(1))
            self.refused(error, told, self.desk.set_rule, Rule.at_entries())
            self.desk.set_limit("a", None)
            self.refused(OverLimit, {"name": "b", "needed": Span(8)}, self.desk.set_rule, Rule.at_entries())
            self.desk.set_limit("b", None)
            self.desk.set_limit("c", None)
            self.desk.set_rule(Rule.at_entries())


class UndoTest(DeskCase):
    def undo_all(self, deeds):
        """Does the deeds, takes all back and does all again, looking at each step."""
        states = [snapshot(self.desk)]
        for deed in deeds:
            deed()
            states.append(snapshot(self.desk))
        self.assertEqual([state["undoable"] for state in states], list(range(len(states))))
        for _ in range(2):
            for wanted in states[-2::-1]:
                self.assertIsNone(self.desk.undo())
                self.assertEqual(snapshot(self.desk), wanted)
            self.refused(NothingToUndo, {}, self.desk.undo)
            for wanted in states[1:]:
                self.assertIsNone(self.desk.redo())
                self.assertEqual(snapshot(self.desk), wanted)
            self.refused(NothingToRedo, {}, self.desk.redo)

    def test_nothing_to_undo_or_redo(self):
        self.refused(NothingToUndo, {}, self.desk.undo)
        self.refused(NothingToRedo, {}, self.desk.redo)

    def test_each_change(self):
        desk = self.desk
        self.undo_all([
            lambda: desk.put("b", FIVE), lambda: desk.put("a", TURNS), lambda: desk.set_limit("b", Span(6)),
            lambda: desk.put("b", program_of(f="6")), lambda: desk.set_rule(Rule.at_backs()),
            lambda: desk.set_limit("a", Span(3)), lambda: desk.remove("b"), lambda: desk.put("b", SEVEN),
            lambda: desk.set_limit("a", None), lambda: desk.set_rule(Rule.nowhere()), lambda: desk.remove("a"),
            lambda: desk.remove("b")])

    def test_changes_that_leave_everything_as_it_was(self):
        desk = self.desk
        self.undo_all([
            lambda: desk.set_rule(Rule.nowhere()), lambda: desk.put("a", FIVE), lambda: desk.put("a", FIVE),
            lambda: desk.set_limit("a", None), lambda: desk.set_limit("a", Span(5)), lambda: desk.set_limit("a", Span(5)),
            lambda: desk.set_rule(desk.rule)])

    def test_a_change_behind_an_undo(self):
        self.desk["a"] = FIVE
        self.desk["b"] = FIVE
        self.desk.undo()
        self.desk.undo()
        self.desk.redo()
        self.desk["c"] = SEVEN
        self.refused(NothingToRedo, {}, self.desk.redo)
        self.assertEqual((self.desk.names(), self.desk.undoable), (["a", "c"], 2))
        self.desk.undo()
        self.assertEqual(self.desk.names(), ["a"])
        self.desk.redo()
        self.assertEqual(self.desk.names(), ["a", "c"])

    def test_a_refused_change_behind_an_undo(self):
        self.desk["a"] = FIVE
        self.desk.set_limit("a", Span(5))
        self.desk["b"] = FIVE
        self.desk.undo()
        self.refused(OverLimit, {"name": "a", "needed": Span(7)}, self.desk.put, "a", SEVEN)
        self.refused(InvalidName, {"value": "A"}, self.desk.put, "A", SEVEN)
        self.refused(UnknownName, {"name": "b"}, self.desk.remove, "b")
        self.desk.redo()
        self.assertEqual(self.desk.names(), ["a", "b"])


class TrialTest(DeskCase):
    def setUp(self):
        self.desk = Desk()
        self.desk["a"] = FIVE
        self.desk.set_limit("a", Span(6))
        self.desk["b"] = FIVE
        self.desk.undo()

    def test_a_block_that_ends(self):
        with self.desk.trial() as held:
            self.assertIs(held, self.desk)
            self.assertEqual(self.desk.undoable, 0)
            held["c"] = SEVEN
            held.set_limit("c", Span(8))
            self.assertEqual(self.desk.undoable, 2)
        self.assertEqual((self.desk.names(), self.desk.limit_of("c"), self.desk.undoable), (["a", "c"], Span(8), 3))
        self.refused(NothingToRedo, {}, self.desk.redo)
        self.desk.undo()
        self.assertEqual((self.desk.names(), self.desk.undoable), (["a"], 2))
        self.desk.redo()
        self.assertEqual((self.desk.names(), self.desk.limit_of("c"), self.desk.undoable), (["a", "c"], Span(8), 3))

    def test_a_block_that_does_nothing(self):
        with self.desk.trial():
            pass
        self.assertEqual((self.desk.names(), self.desk.undoable), (["a"], 3))
        self.refused(NothingToRedo, {}, self.desk.redo)
        self.desk.undo()
        self.assertEqual((self.desk.names(), self.desk.undoable), (["a"], 2))
        self.desk.redo()
        self.assertEqual(self.desk.undoable, 3)

    def test_a_block_that_takes_back_all_that_it_did(self):
        with self.desk.trial():
            self.desk["c"] = SEVEN
            self.desk.undo()
            self.refused(NothingToUndo, {}, self.desk.undo)
        self.assertEqual((self.desk.names(), self.desk.undoable), (["a"], 3))
        self.refused(NothingToRedo, {}, self.desk.redo)

    def test_undo_and_redo_in_a_block(self):
        with self.desk.trial():
            self.refused(NothingToRedo, {}, self.desk.redo)
            self.refused(NothingToUndo, {}, self.desk.undo)
            self.desk["c"] = SEVEN
            self.desk.set_rule(Rule.at_entries())
            self.desk.undo()
            self.desk.undo()
            self.assertEqual((self.desk.names(), self.desk.undoable), (["a"], 0))
            self.desk.redo()
            self.assertEqual((self.desk.names(), self.desk.undoable), (["a", "c"], 1))
        self.refused(NothingToRedo, {}, self.desk.redo)
        self.assertEqual((self.desk.names(), self.desk.rule), (["a", "c"], Rule.nowhere()))

    def leave_by(self, error):
        with self.desk.trial():
            self.desk["c"] = SEVEN
            self.desk.remove("a")
            self.desk.undo()
            self.desk.rule = Rule.at_entries()
            raise error

    def test_a_block_that_is_left_by_an_error(self):
        now = self.now()
        for error in [Failure("why"), StopError(), KeyError("a"), StopIteration(), KeyboardInterrupt(), GeneratorExit(),
                      SystemExit(), AssertionError()]:
            with self.assertRaises(type(error)) as caught:
                self.leave_by(error)
            self.assertIs(caught.exception, error)
            self.same_as(now)
        # What could be undone and redone still can be.
        self.desk.redo()
        self.assertEqual(self.desk.names(), ["a", "b"])
        for _ in range(3):
            self.desk.undo()
        self.refused(NothingToUndo, {}, self.desk.undo)

    def test_a_block_that_is_left_by_a_refused_change(self):
        now = self.now()
        with self.assertRaises(OverLimit):
            with self.desk.trial():
                self.desk.remove("a")
                self.desk["a"] = TURNS
                self.desk.set_limit("a", Span(9))
        self.same_as(now)
        with self.assertRaises(NothingToUndo):
            with self.desk.trial():
                self.desk["c"] = SEVEN
                self.desk.undo()
                self.desk.undo()
        self.same_as(now)

    def test_limits_hold_in_a_block(self):
        with self.desk.trial():
            self.refused(OverLimit, {"name": "a", "needed": Span(7)}, self.desk.put, "a", SEVEN)
            self.desk.set_limit("a", Span(7))
            self.desk["a"] = SEVEN
        self.assertEqual(self.desk["a"], SEVEN)
        self.desk.undo()
        self.assertEqual((self.desk["a"], self.desk.limit_of("a")), (FIVE, Span(6)))

    def test_ways_out_of_a_block_without_an_error(self):
        def leave():
            for _ in range(1):
                with self.desk.trial():
                    self.desk["c"] = SEVEN
                    return 5

        self.assertEqual(leave(), 5)
        for _ in range(2):
            with self.desk.trial():
                self.desk["d"] = SEVEN
                break
        self.assertEqual((self.desk.names(), self.desk.undoable), (["a", "c", "d"], 4))

    def test_blocks_in_blocks(self):
        with self.desk.trial():
            self.desk["c"] = SEVEN
            with self.desk.trial() as inner:
                self.assertEqual(inner.undoable, 0)
                self.refused(NothingToUndo, {}, inner.undo)
                inner["d"] = SEVEN
                inner["e"] = SEVEN
            self.assertEqual((self.desk.names(), self.desk.undoable), (["a", "c", "d", "e"], 2))
            self.desk.undo()
            self.assertEqual((self.desk.names(), self.desk.undoable), (["a", "c"], 1))
            self.desk.redo()
            self.assertEqual((self.desk.names(), self.desk.undoable), (["a", "c", "d", "e"], 2))
        self.assertEqual(self.desk.undoable, 3)
        self.desk.undo()
        self.assertEqual(self.desk.names(), ["a"])
        self.desk.redo()
        self.assertEqual(self.desk.names(), ["a", "c", "d", "e"])

    def test_an_error_that_is_caught_within(self):
        with self.desk.trial():
            self.desk["c"] = SEVEN
            try:
                self.desk["a"] = SEVEN
            except OverLimit:
                self.desk["d"] = SEVEN
        self.assertEqual((self.desk.names(), self.desk.undoable), (["a", "c", "d"], 3))

    def test_an_error_that_is_caught_between(self):
        with self.desk.trial():
            self.desk["c"] = SEVEN
            self.desk["d"] = SEVEN
            self.desk.undo()
            now = self.now()
            try:
                with self.desk.trial():
                    self.desk.remove("c")
                    with self.desk.trial():
                        self.desk["e"] = SEVEN
                    raise Failure()
            except Failure:
                self.same_as(now)
            self.desk.redo()
            self.assertEqual((self.desk.names(), self.desk.undoable), (["a", "c", "d"], 2))
        self.assertEqual((self.desk.names(), self.desk.undoable), (["a", "c", "d"], 3))

    def test_an_error_that_is_caught_around(self):
        now = self.now()
        with self.assertRaises(Failure):
            with self.desk.trial():
                self.desk["c"] = SEVEN
                with self.desk.trial():
                    self.desk["d"] = SEVEN
                with self.desk.trial():
                    self.desk["e"] = SEVEN
                    raise Failure()
        self.same_as(now)
        self.desk.redo()
        self.assertEqual(self.desk.names(), ["a", "b"])

    def nest(self, depth):
        """Begins so many blocks in one another, with a change in each."""
        if depth:
            with self.desk.trial():
                self.desk[f"n{'abcdefghijklmnopqrstuvwxyz'[depth]}"] = FIVE
                self.nest(depth - 1)

    def test_twenty_blocks_and_twenty_one(self):
        now = self.now()
        self.refuses(LimitExceeded, {"limit": 20}, self.nest, 21)
        self.same_as(now)
        self.nest(20)
        self.assertEqual((len(self.desk), self.desk.undoable), (21, 3))
        self.desk.undo()
        self.assertEqual(self.desk.names(), ["a"])
        # Afterwards there are no blocks around any more.
        self.nest(20)
        self.assertEqual(self.desk.undoable, 3)

    def test_the_block_that_is_too_many_begins_behind_its_call(self):
        def deepest():
            trial = self.desk.trial()
            now = self.now()
            with self.assertRaises(LimitExceeded):
                with trial:
                    self.fail()
            self.same_as(now)
            self.refused(LimitExceeded, {"limit": 20}, self.desk.trying, self.fail)
            self.desk["z"] = FIVE
            return "done"

        def go(depth):
            return self.desk.trying(lambda: go(depth - 1)) if depth else deepest()

        self.assertEqual(go(20), "done")
        self.assertEqual((self.desk.names(), self.desk.undoable), (["a", "z"], 3))

    def test_a_trial_that_never_begins(self):
        now = self.now()
        self.desk.trial()
        self.same_as(now)

    def test_trying(self):
        result = [1]
        self.assertIs(self.desk.trying(lambda: self.desk.put("c", SEVEN) or result), result)
        self.assertEqual((self.desk.names(), self.desk.undoable), (["a", "c"], 3))
        self.assertIsNone(self.desk.trying(call=lambda: None))
        self.assertEqual(self.desk.undoable, 4)
        self.assertEqual(self.desk.trying(lambda: self.desk.undoable), 0)

    def test_trying_with_an_error(self):
        error = Failure()
        now = self.now()

        def call():
            self.desk["c"] = SEVEN
            raise error

        with self.assertRaises(Failure) as caught:
            self.desk.trying(call)
        self.assertIs(caught.exception, error)
        self.same_as(now)
        self.desk.redo()
        self.assertEqual(self.desk.names(), ["a", "b"])


class SheetTest(DeskCase):
    def setUp(self):
        self.desk = Desk()
        self.desk["a"] = FIVE
        self.sheet = self.desk.sheet("a")

    def put(self, program):
        self.sheet.program = program

    def limit(self, limit):
        self.sheet.limit = limit

    def read(self, name):
        return getattr(self.sheet, name)

    def test_read_and_set(self):
        self.assertIsInstance(self.sheet, Sheet)
        self.assertEqual((self.sheet.program, self.sheet.limit), (FIVE, None))
        self.sheet.program = SEVEN
        self.sheet.limit = Span(9)
        self.assertEqual((self.desk["a"], self.desk.limit_of("a"), self.desk.undoable), (SEVEN, Span(9), 3))
        self.assertEqual((self.sheet.program, self.sheet.limit), (SEVEN, Span(9)))
        self.assertIsNone(self.sheet.set_program(program=FIVE))
        self.assertIsNone(self.sheet.set_limit(limit=None))
        self.assertEqual((self.desk["a"], self.desk.limit_of("a"), self.desk.undoable), (FIVE, None, 5))

    def test_changes_of_the_desk(self):
        other = self.desk.sheet(name="a")
        self.desk["a"] = SEVEN
        self.desk.set_limit("a", Span(8))
        for sheet in (self.sheet, other):
            self.assertEqual((sheet.program, sheet.limit), (SEVEN, Span(8)))
        self.desk.undo()
        self.desk.undo()
        self.assertEqual((self.sheet.program, self.sheet.limit), (FIVE, None))

    def test_a_name_that_is_gone_and_comes_back(self):
        self.sheet.limit = Span(6)
        self.desk.remove("a")
        for name in ("program", "limit"):
            self.refused(UnknownName, {"name": "a"}, self.read, name)
        for call in (self.put, self.limit, self.sheet.set_program, self.sheet.set_limit):
            for value in (FIVE, None, "no", Span(5)):
                self.refused(UnknownName, {"name": "a"}, call, value)
        self.desk.undo()
        self.assertEqual((self.sheet.program, self.sheet.limit), (FIVE, Span(6)))
        self.desk.remove("a")
        self.desk["a"] = SEVEN
        self.assertEqual((self.sheet.program, self.sheet.limit), (SEVEN, None))
        self.sheet.limit = Span(7)
        self.assertEqual(self.desk.limit_of("a"), Span(7))

    def test_refused_changes(self):
        self.sheet.limit = Span(6)
        for call in (self.put, self.sheet.set_program):
            self.refused(OverLimit, {"name": "a", "needed": Span(7)}, call, SEVEN)
            for value in STRANGE + [5, FIVE["f"], self.sheet]:
                self.refused(InvalidProgram, {"value": value}, call, value)
        for call in (self.limit, self.sheet.set_limit):
            self.refused(OverLimit, {"name": "a", "needed": Span(5)}, call, Span(4))
            for value in STRANGER + [5, Span(10 ** 60)]:
                self.refused(InvalidLimit, {"value": value}, call, value)

    def test_sheets_in_blocks(self):
        with self.assertRaises(Failure):
            with self.desk.trial():
                self.sheet.program = SEVEN
                raise Failure()
        self.assertEqual(self.sheet.program, FIVE)
        with self.desk.trial():
            self.sheet.program = SEVEN
            self.sheet.limit = Span(7)
        self.assertEqual(self.desk.undoable, 2)
        self.desk.undo()
        self.assertEqual((self.sheet.program, self.sheet.limit), (FIVE, None))


class ModelTest(Case):
    """Deeds by chance, beside a desk that keeps copies of everything."""

    def test_by_chance(self):
        self.refused, self.done, self.failed = 0, 0, 0
        for seed in range(100):
            rng = generator(2000 + seed)
            desk, model = Desk(), Model()
            self.play(rng, desk, model, 40, 0)
            for name in desk.names():
                if desk.limit_of(name) is not None:
                    self.assertLessEqual(desk.span_for(name), desk.limit_of(name))
        self.assertGreater(min(self.refused, self.done, self.failed), 100)

    def play(self, rng, desk, model, many, depth):
        for _ in range(rng.randint(0, many)):
            if depth < 4 and rng.random() < 0.12:
                self.block(rng, desk, model, many // 3, depth)
            else:
                word, args = deed_by_chance(rng)
                if word not in ("put", "set_rule") and args and args[0] not in model.names():
                    self.refuses(UnknownName, {"name": args[0]}, getattr(desk, word), *args)
                else:
                    self.deed(desk, model, word, args)
            self.assertEqual(snapshot(desk), snapshot(model))
        self.assertEqual(notes(desk), model.lines)

    def deed(self, desk, model, word, args):
        try:
            getattr(model, word)(*args)
            self.done += 1
        except StopError as error:
            told = vars(error)
            self.refuses(type(error), told, getattr(desk, word), *args)
            self.refused += 1
        else:
            self.assertIsNone(getattr(desk, word)(*args))

    def block(self, rng, desk, model, many, depth):
        fails = rng.random() < 0.4
        before = model.begin()
        try:
            with desk.trial():
                self.play(rng, desk, model, many, depth + 1)
                if fails:
                    raise Failure()
            model.end(before)
        except Failure:
            model.fail(before)
            self.failed += 1


if __name__ == "__main__":
    unittest.main()
