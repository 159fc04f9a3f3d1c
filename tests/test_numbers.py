"""Points 3 (a) and 9 and stoppoints/numbers.py."""

import operator
import unittest

from stoppoints.codes import Loop, Work, pieces_of
from stoppoints.errors import InvalidNumber, InvalidTurns, UnknownName
from stoppoints.numbers import Numbers, numbers_by
from stoppoints.programs import Program
from stoppoints.spans import Span, greatest
from stoppoints.texts import parse_code

from cases import STRANGE, STRANGER, TOP, Case, Same
from samples import (WAYS, TooMany, eight, expected, generator, numbers_from, random_code, random_numbers, walks_of)

NO = (None, None, None)
ON = (Span(0), None, None)
ENDLESS = Span.endless()


def numbers_of(text, **told):
    return numbers_by(parse_code(text), told)


def made(through=NO, tail=NO, head=Span(0), inner=None):
    return Numbers(through=through, tail=tail, head=head, inner=inner)


class NumbersTest(Case):
    def test_attributes(self):
        numbers = made((Span(1), None, Span(3)), (None, Span(4), ENDLESS), Span(7), ENDLESS)
        self.assertEqual([numbers.through(way) for way in WAYS], [Span(1), None, Span(3)])
        self.assertEqual([numbers.tail(way) for way in WAYS], [None, Span(4), ENDLESS])
        self.assertEqual(numbers.head, Span(7))
        self.assertEqual(numbers.inner, ENDLESS)
        self.assertEqual((numbers.through(way="return"), numbers.tail(way="leave")), (Span(3), Span(4)))

    def test_span(self):
        self.assertEqual(made(head=Span(4)).span, Span(4))
        self.assertEqual(made(head=Span(4), inner=Span(3)).span, Span(4))
        self.assertEqual(made(head=Span(4), inner=Span(5)).span, Span(5))
        self.assertEqual(made(head=ENDLESS, inner=Span(5)).span, ENDLESS)
        self.assertEqual(made(head=Span(0), inner=ENDLESS).span, ENDLESS)

    def test_by_name_alone(self):
        with self.assertRaises(TypeError):
            Numbers(NO, NO, Span(0), None)

    def test_ways(self):
        numbers = made()
        for value in STRANGE + ["On", "on ", "here", 0, 1, ("on",), ["on"], Span(0), Same()]:
            self.refuses(UnknownName, {"name": value}, numbers.through, value)
            self.refuses(UnknownName, {"name": value}, numbers.tail, value)

    def test_wrong_values(self):
        wrong = STRANGE + [5, Span(1), [None, None, None], (None, None), (None,) * 4, (0, None, None),
                           (None, None, 1), (None, "on", None), (Span(1), True, None), (Work(1), None, None)]
        for value in wrong:
            self.refuses(InvalidNumber, {"value": value}, made, through=value)
            self.refuses(InvalidNumber, {"value": value}, made, tail=value)
            self.refuses(InvalidNumber, {"value": value}, made, through=value, tail=7, head=8, inner=9)
            self.refuses(InvalidNumber, {"value": value}, made, tail=value, head=8, inner=9)
        for value in STRANGE + [0, 5, NO, (Span(0),), Work(1)]:
            self.refuses(InvalidNumber, {"value": value}, made, head=value)
            self.refuses(InvalidNumber, {"value": value}, made, head=value, inner=9)
        for value in STRANGER + [0, 5, NO, (Span(0),), Work(1)]:
            self.refuses(InvalidNumber, {"value": value}, made, inner=value)
            self.refuses(InvalidNumber, {"value": value}, made, (Span(9), None, None), inner=value)

    def test_through_above_head(self):
        for through in [(Span(5), None, None), (None, Span(5), None), (None, None, Span(5)),
                        (Span(4), Span(5), Span(1)), (ENDLESS, None, Span(0))]:
            self.refuses(InvalidNumber, {"value": Span(4)}, made, through, head=Span(4))
            self.refuses(InvalidNumber, {"value": Span(4)}, made, through, through, Span(4), Span(3))
        self.refuses(InvalidNumber, {"value": Span(TOP)}, made, (ENDLESS, None, None), head=Span(TOP))
        self.assertEqual(made((Span(4), Span(4), Span(4)), head=Span(4)).head, Span(4))
        self.assertEqual(made((ENDLESS, ENDLESS, None), head=ENDLESS).head, ENDLESS)

    def test_tail_above_inner(self):
        for tail in [(Span(5), None, None), (None, Span(5), None), (None, None, Span(5)), (Span(0), ENDLESS, None)]:
            self.refuses(InvalidNumber, {"value": Span(4)}, made, tail=tail, head=Span(9), inner=Span(4))
            self.refuses(InvalidNumber, {"value": None}, made, tail=tail, head=Span(9))
        self.refuses(InvalidNumber, {"value": None}, made, tail=(None, Span(0), None))
        self.assertEqual(made(tail=(Span(4), None, Span(4)), inner=Span(4)).inner, Span(4))
        self.assertEqual(made(tail=NO, inner=Span(0)).inner, Span(0))

    def test_equality(self):
        rows = [
            [0, None, None, None, None, None, 9, 9], [1, None, None, None, None, None, 9, 9],
            [None, 0, None, None, None, None, 9, 9], [None, None, 0, None, None, None, 9, 9],
            [None, None, None, 0, None, None, 9, 9], [None, None, None, None, 0, None, 9, 9],
            [None, None, None, None, None, 0, 9, 9], [None, None, None, None, None, None, 9, 9],
            [None, None, None, None, None, None, 8, 9], [None, None, None, None, None, None, 9, 8],
            [None, None, None, None, None, None, 9, None], [None, None, None, None, None, None, "endless", 9],
            [None, None, None, None, None, None, 9, "endless"], [0, 1, 2, 3, 4, 5, 9, 9], [0, 1, 2, 3, 5, 4, 9, 9],
        ]
        for at, one in enumerate(rows):
            for k, other in enumerate(rows):
                self.assertIs(numbers_from(one) == numbers_from(other), at == k)
                self.assertIs(numbers_from(one) != numbers_from(other), at != k)
        for value in STRANGE + [0, Span(0), Work(0)]:
            self.assertIs(Numbers.of_nothing() == value, False)

    def test_order(self):
        steps = [None, 0, 5, "endless"]
        base = [5, 5, 5, 5, 5, 5, "endless", "endless"]
        for at in range(6):
            for k, one in enumerate(steps):
                for m, other in enumerate(steps):
                    less = numbers_from(base[:at] + [one] + base[at + 1:])
                    more = numbers_from(base[:at] + [other] + base[at + 1:])
                    self.assertIs(less <= more, k <= m)
        for at in (6, 7):
            base = [None] * 6 + [5, 5]
            for k, one in enumerate(steps[at == 6:]):
                for m, other in enumerate(steps[at == 6:]):
                    less = numbers_from(base[:at] + [one] + base[at + 1:])
                    more = numbers_from(base[:at] + [other] + base[at + 1:])
                    self.assertIs(less <= more, k <= m)

    def test_order_of_all_eight(self):
        one = numbers_from([1, 2, 3, 1, 2, 3, 5, 5])
        self.assertIs(one <= numbers_from([1, 2, 3, 1, 2, 3, 5, 5]), True)
        self.assertIs(one <= numbers_from([9, 9, 9, 9, 9, 9, 9, 9]), True)
        self.assertIs(one <= numbers_from([3, 3, 3, 3, 3, 3, 9, 4]), False)
        self.assertIs(one <= numbers_from([3, 3, 3, 3, 3, 3, 4, 9]), False)
        self.assertIs(one <= numbers_from([9, 9, 2, 9, 9, 9, 9, 9]), False)
        self.assertIs(one <= numbers_from([9, 9, 9, 9, 9, None, 9, 9]), False)
        self.assertIs(one <= numbers_from([0, 9, 9, 9, 9, 9, 9, 9]), False)


class KindsTest(Case):
    def test_of_leaves(self):
        self.assertEqual(Numbers.of_nothing(), made(ON))
        self.assertEqual(Numbers.of_work(5), made((Span(5), None, None), head=Span(5)))
        self.assertEqual(Numbers.of_work(time=TOP), made((Span(TOP), None, None), head=Span(TOP)))
        self.assertEqual(Numbers.of_look(0), made(NO, ON, Span(0), Span(0)))
        self.assertEqual(Numbers.of_look(cost=3), made(NO, ON, Span(3), Span(0)))
        self.assertEqual(Numbers.of_stand(), made(NO, ON, Span(0), Span(0)))
        self.assertEqual(Numbers.of_leave(), made((None, Span(0), None)))
        self.assertEqual(Numbers.of_return(), made((None, None, Span(0))))

    def test_numbers_by_leaves(self):
        for text, numbers in [
                ("[]", Numbers.of_nothing()), ("7", Numbers.of_work(7)), ("?a:4", Numbers.of_look(4)),
                ("?a", Numbers.of_look(0)), ("!", Numbers.of_stand()), ("leave", Numbers.of_leave()),
                ("return", Numbers.of_return())]:
            self.assertEqual(numbers_of(text), numbers)

    def test_calls_are_taken_as_told(self):
        rng = generator(2)
        for _ in range(50):
            told = random_numbers(rng)
            self.assertEqual(numbers_of("call f", f=told), told)
            self.assertEqual(numbers_of("[call f; call g]", f=told, g=Numbers.of_work(2)), told + Numbers.of_work(2))
            self.assertEqual(numbers_of("{call g | call f}", f=told, g=Numbers.of_look(2)), Numbers.of_look(2) | told)
            self.assertEqual(numbers_of("2..3 call f", f=told), told.turned(2, 3))

    def test_first_call_that_is_not_told(self):
        told = {"f": Numbers.of_work(1), "a": Numbers.of_work(1)}
        code = parse_code("[call f; 0..0 {call z | call b}; return; call a; call c]")
        self.refuses(UnknownName, {"name": "z"}, numbers_by, code, told)
        told["z"] = Numbers.of_work(1)
        self.refuses(UnknownName, {"name": "b"}, numbers_by, code, told)
        told["b"] = Numbers.of_work(1)
        self.refuses(UnknownName, {"name": "c"}, numbers_by, code, told)
        told["c"] = Numbers.of_work(1)
        self.assertEqual(numbers_by(told=told, code=code), numbers_of("[1; return]"))
        self.refuses(UnknownName, {"name": "f"}, numbers_by, parse_code("call f"), {})

    def test_told_stays(self):
        told = {"f": Numbers.of_work(1), "g": Numbers.of_look(1)}
        numbers_by(parse_code("[call f; call g]"), told)
        self.assertEqual(told, {"f": Numbers.of_work(1), "g": Numbers.of_look(1)})


class CodesTest(Case):
    def check(self, text, *wanted, **told):
        self.assertEqual(eight(numbers_of(text, **told)), list(wanted))

    def test_rows(self):
        self.check("[2; 3]", 5, None, None, None, None, None, 5, None)
        self.check("[2; ?a:4; 3]", None, None, None, 3, None, None, 6, 3)
        self.check("[2; ?a; 7; ?b:1; 3]", None, None, None, 3, None, None, 2, 8)
        self.check("[2; !; 7]", None, None, None, 7, None, None, 2, 7)

    def test_choices(self):
        self.check("{2 | [3; ?a; 4] | [1; return]}", 2, None, 1, 4, None, None, 3, 4)
        self.check("{leave | 5}", 5, 0, None, None, None, None, 5, None)

    def test_what_no_walk_comes_to(self):
        self.check("[2; return; ?a; 9]", None, None, 2, None, None, None, 2, None)
        self.check("[2; leave; 9]", None, 2, None, None, None, None, 2, None)
        self.check("[?a; return; !; 9]", None, None, None, None, None, 0, 0, 0)
        self.check("[0..0 ?a; 9]", 9, None, None, None, None, None, 9, None)
        self.check("[1..1 return; ?a]", None, None, 0, None, None, None, 0, None)
        self.check("[0..1 return; ?a:3]", None, None, 0, 0, None, None, 3, 0)

    def test_a_function_that_never_ends(self):
        told = made(head=Span(4), inner=Span(6))
        self.check("[2; call f; ?a; 9]", None, None, None, None, None, None, 6, 6, f=told)
        self.check("0..* [2; call f]", 0, None, None, None, None, None, 6, 6, f=told)
        self.check("1..* [2; call f]", None, None, None, None, None, None, 6, 6, f=told)

    def test_loops(self):
        self.check("3..5 2", 10, None, None, None, None, None, 10, None)
        self.check("0..0 2", 0, None, None, None, None, None, 0, None)
        self.check("0..1 [2; ?a; 3]", 0, None, None, 3, None, None, 2, 3)
        self.check("0..2 [2; ?a; 3]", 0, None, None, 3, None, None, 2, 5)
        self.check("1..2 [2; ?a; 3]", None, None, None, 3, None, None, 2, 5)
        self.check("0..4 {5 | [2; ?a; 3]}", 20, None, None, 18, None, None, 20, 18)
        self.check("3..3 [4; 0..1 ?a]", 12, None, None, 8, None, None, 12, 8)

    def test_leave_and_return_in_loops(self):
        self.check("0..3 [2; {[] | leave}]", 6, None, None, None, None, None, 6, None)
        self.check("3..3 [2; {[] | [9; leave]}]", 15, None, None, None, None, None, 15, None)
        self.check("3..3 [2; leave]", 2, None, None, None, None, None, 2, None)
        self.check("0..3 [2; {[] | [9; return]}]", 6, None, 15, None, None, None, 15, None)
        self.check("0..2 [1; ?a; 3; {[] | [5; leave] | [9; return]}]", 0, None, None, 8, None, 12, 1, 12)
        self.check("2..3 {4 | [?a; 1] | [7; leave]}", 15, None, None, 12, None, None, 15, 12)
        self.check("0..1 {[?a; 1] | [7; leave]}", 7, None, None, 1, None, None, 7, 1)
        self.check("0..2 {[?a; 1] | [7; leave]}", 7, None, None, 8, None, None, 7, 8)

    def test_loops_without_high(self):
        self.check("0..* 2", "endless", None, None, None, None, None, "endless", None)
        self.check("0..* 0", 0, None, None, None, None, None, 0, None)
        self.check("0..* [2; ?a; 3]", 0, None, None, 3, None, None, 2, 5)
        self.check("0..* {2 | [1; ?a; 3]}", "endless", None, None, "endless", None, None, "endless", "endless")
        self.check("0..* {0 | [1; ?a; 3]}", 0, None, None, 3, None, None, 1, 4)
        self.check("0..* [2; return]", 0, None, 2, None, None, None, 2, None)
        self.check("1..* [2; leave]", 2, None, None, None, None, None, 2, None)
        self.check("0..* [2; {[] | leave | return}]", "endless", None, "endless", None, None, None, "endless", None)
        self.check("0..* 0..* 0..1 1", "endless", None, None, None, None, None, "endless", None)
        self.check("0..* [0; {[] | [7; leave]}]", 7, None, None, None, None, None, 7, None)

    def test_endless_numbers(self):
        told = made((ENDLESS, None, None), head=ENDLESS)
        self.check("0..0 call f", 0, None, None, None, None, None, 0, None, f=told)
        self.check("1..1 call f", "endless", None, None, None, None, None, "endless", None, f=told)
        self.check("1..1 [?a; call f]", None, None, None, "endless", None, None, 0, "endless", f=told)
        self.check("[?a; return; call f]", None, None, None, None, None, 0, 0, 0, f=told)
        self.check("1..1 [call f; {leave | return}]", "endless", None, "endless", None, None, None, "endless", None,
                   f=told)
        self.check("0..2 {[1; leave] | [2; ?a; 4]}", 1, None, None, 5, None, None, 2, 6)

    def test_great_numbers(self):
        top = "1" + "0" * 30
        self.check(f"{top}..{top} {top}", 10 ** 60, None, None, None, None, None, 10 ** 60, None)
        self.check(f"0..{top} {{1 | ?a:{top}}}", TOP, None, None, TOP - 1, None, None, TOP - 1 + TOP, 2 * TOP - 2)

    def test_against_all_walks(self):
        rng = generator(9)
        told = {"f": "[3; ?a; 4]", "g": "{6 | [?b; 2] | !}", "h": "[1; return; 9]"}
        walks = {name: {("on" if way == "return" else way, s) for way, s in walks_of(parse_code(text), {})}
                 for name, text in told.items()}
        numbers = {name: numbers_of(text).called() for name, text in told.items()}
        compared = {"endless": 0, "leave": 0, "return": 0}
        for _ in range(2500):
            code = random_code(rng, rng.choice([2, 3, 4]), names=list(told), whole=False)
            try:
                wanted = expected(code, walks)
            except TooMany:
                continue
            self.assertEqual(eight(numbers_by(code, numbers)), wanted, code)
            compared["endless"] += "endless" in wanted
            compared["leave"] += wanted[1] is not None and wanted[4] is not None
            compared["return"] += wanted[2] is not None and wanted[5] is not None
        self.assertGreater(min(compared.values()), 10)

    def test_against_walks_of_programs(self):
        rng = generator(10)
        compared = 0
        for _ in range(400):
            code = random_code(rng, 3)
            if any(isinstance(piece, Loop) and piece.high is None for piece in pieces_of(code)):
                continue
            stretches = [walk.stretches() for walk in self.walks(Program("f", {"f": code}), [])]
            numbers = numbers_by(code, {})
            self.assertEqual(numbers.head.time, max(found[0] for found in stretches))
            self.assertEqual(numbers.span.time, max(max(found) for found in stretches))
            compared += 1
        self.assertGreater(compared, 200)

    def walks(self, program, choices):
        """All walks that stay where they have to choose or come to the end."""
        walk = program(choices)
        found = [walk]
        if not walk.done:
            low, high = (0, walk.waits[1] - 1) if walk.waits[0] == "either" else walk.waits[1:]
            for choice in range(low, high + 1):
                found = found + self.walks(program, choices + [choice])
        return found


class SignsTest(Case):
    def test_row(self):
        rng = generator(21)
        for _ in range(400):
            one, two, three = random_numbers(rng), random_numbers(rng), random_numbers(rng)
            self.assertEqual((one + two) + three, one + (two + three))
            self.assertEqual(one + Numbers.of_nothing(), one)
            self.assertEqual(Numbers.of_nothing() + one, one)
            self.assertEqual(numbers_of("[call a; call b; call c]", a=one, b=two, c=three), one + two + three)

    def test_row_by_its_formulas(self):
        one = numbers_from([1, 2, 4, 8, 16, 32, 64, 128])
        other = numbers_from([3, 6, 12, 24, 48, 96, 200, 400])
        self.assertEqual(eight(one + other), [4, 7, 13, 24, 48, 96, 201, 400])
        self.assertEqual(eight(other + one), [4, 6, 12, 25, 48, 96, 200, 400])
        late = numbers_from([3, 6, 12, 0, 0, 0, 200, 0])
        self.assertEqual(eight(one + late), [4, 7, 13, 11, 16, 32, 201, 208])

    def test_either(self):
        one = numbers_from([1, None, 4, 8, None, "endless", 64, "endless"])
        other = numbers_from([3, 6, None, None, None, 96, 65, 400])
        wanted = [3, 6, 4, 8, None, "endless", 65, "endless"]
        self.assertEqual(eight(one | other), wanted)
        self.assertEqual(eight(other | one), wanted)
        self.assertEqual(one | one, one)

    def test_called(self):
        numbers = numbers_from([1, 9, 4, 8, 20, 5, 64, 70])
        self.assertEqual(eight(numbers.called()), [4, None, None, 8, None, None, 64, 70])
        numbers = numbers_from([7, None, 4, None, 20, 5, 64, 70])
        self.assertEqual(eight(numbers.called()), [7, None, None, 5, None, None, 64, 70])
        numbers = numbers_from([None, 3, None, None, 20, None, 64, 70])
        self.assertEqual(eight(numbers.called()), [None, None, None, None, None, None, 64, 70])
        numbers = numbers_from(["endless", None, 3, 5, None, "endless", "endless", "endless"])
        self.assertEqual(eight(numbers.called()),
                         ["endless", None, None, "endless", None, None, "endless", "endless"])

    def test_turned_by_its_formulas(self):
        numbers = numbers_from([1, 10, 100, 3, 30, 300, 200, 400])
        self.assertEqual(eight(numbers.turned(0, 0)), [0, None, None, None, None, None, 0, None])
        self.assertEqual(eight(numbers.turned(0, 1)), [10, None, 100, 30, None, 300, 200, 400])
        self.assertEqual(eight(numbers.turned(1, 1)), [10, None, 100, 30, None, 300, 200, 400])
        self.assertEqual(eight(numbers.turned(0, 2)), [11, None, 101, 30, None, 300, 201, 400])
        self.assertEqual(eight(numbers.turned(2, 301)), [310, None, 400, 312, None, 402, 500, 502])
        self.assertEqual(eight(numbers.turned(low=7, high=None)),
                         ["endless", None, "endless", "endless", None, "endless", "endless", "endless"])

    def test_turned_with_nothing_to_gain(self):
        numbers = numbers_from([0, 10, 100, 3, 30, 300, 200, 400])
        self.assertEqual(eight(numbers.turned(0, None)), [10, None, 100, 30, None, 300, 200, 400])
        numbers = numbers_from([None, 10, 100, 40, 30, None, 200, 201])
        self.assertEqual(eight(numbers.turned(0, None)), [10, None, 100, 50, None, 140, 200, 240])
        self.assertEqual(eight(numbers.turned(0, 1)), [10, None, 100, 40, None, None, 200, 201])

    def test_low_counts_where_no_turn_goes_on(self):
        numbers = numbers_from([None, None, 2, None, None, None, 5, None])
        self.assertEqual(eight(numbers.turned(0, 3)), [0, None, 2, None, None, None, 5, None])
        self.assertEqual(eight(numbers.turned(1, 3)), [None, None, 2, None, None, None, 5, None])
        self.assertEqual(eight(numbers.turned(0, None)), [0, None, 2, None, None, None, 5, None])
        self.assertEqual(eight(numbers.turned(1, None)), [None, None, 2, None, None, None, 5, None])

    def test_turned_once_is_a_row_with_leave(self):
        rng = generator(22)
        for _ in range(200):
            numbers = random_numbers(rng)
            once = numbers.turned(1, 1)
            self.assertEqual(once.through("on"), greatest([numbers.through("on"), numbers.through("leave")]))
            self.assertEqual(once.tail("on"), greatest([numbers.tail("on"), numbers.tail("leave")]))
            self.assertEqual((once.through("return"), once.tail("return")),
                             (numbers.through("return"), numbers.tail("return")))
            self.assertEqual((once.through("leave"), once.tail("leave")), (None, None))
            self.assertEqual((once.head, once.inner), (numbers.head, numbers.inner))

    def test_turned_is_a_row_of_turns(self):
        # Without Leaves, a loop is a choice of rows.
        rng = generator(23)
        for _ in range(200):
            spans = eight(random_numbers(rng))
            numbers = numbers_from([spans[0], None, spans[2], spans[3], None, spans[5], spans[6], spans[7]])
            row = Numbers.of_nothing()
            rows = [row]
            for _ in range(4):
                row = row + numbers
                rows.append(row)
            for low in range(5):
                choice = rows[low]
                for high in range(low, 5):
                    choice = choice | rows[high]
                    self.assertEqual(numbers.turned(low, high), choice)

    def test_wrong_turns(self):
        numbers = Numbers.of_work(1)
        for value in STRANGE + [-1, TOP + 1, Span(1)]:
            self.refuses(InvalidTurns, {"value": value}, numbers.turned, value, 5)
            self.refuses(InvalidTurns, {"value": value}, numbers.turned, value, "x")
        for value in STRANGER + [-1, 3, TOP + 1, Span(5)]:
            self.refuses(InvalidTurns, {"value": value}, numbers.turned, 4, value)
        self.assertEqual(numbers.turned(TOP, TOP), Numbers.of_work(TOP))
        self.assertEqual(numbers.turned(4, 4), Numbers.of_work(4))

    def test_sides_stay(self):
        one, other = Numbers.of_work(3), Numbers.of_look(4)
        one + other
        one | other
        one.turned(0, 5)
        one.called()
        operator.le(one, other)
        self.assertEqual((one, other), (Numbers.of_work(3), Numbers.of_look(4)))


if __name__ == "__main__":
    unittest.main()
