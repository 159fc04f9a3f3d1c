"""Points 5 and 6 and stoppoints/codes.py."""

import operator
import unittest

from stoppoints.codes import Call, Code, Either, Leave, Look, Loop, Return, Row, Stand, Work, pieces_of
from stoppoints.errors import InvalidCode, InvalidName, InvalidTime, InvalidTurns
from stoppoints.spans import Span

from cases import STRANGE, STRANGER, TOP, Case, Same, nested, of_size, some_codes

CLASSES = [Work, Look, Stand, Row, Either, Loop, Call, Leave, Return]
NO_TIMES = STRANGE + [-1, TOP + 1, Span(1), Work(1)]
NO_NAMES = STRANGE + [0, 5, "abcdefghi", "aB", "a1", "1", "a_b", "a b", " a", "a ", "a\n", "-", "\xe9", "\u0430",
                      ["a"], ("a",), Look("a")]
NO_CODES = STRANGER + [0, 5, "a", "[]", Span(1), Work, [Work(1)]]


class KindsTest(Case):
    def test_work(self):
        for time in [0, 1, 5, TOP - 1, TOP]:
            self.same(Work(time).time, time)
        self.same(Work(time=3).time, 3)
        for value in NO_TIMES:
            self.refuses(InvalidTime, {"value": value}, Work, value)

    def test_look(self):
        for name in ["a", "z", "abcdefgh", "zzzzzzzz"]:
            look = Look(name)
            self.same(look.name, name)
            self.same(look.cost, 0)
        for cost in [0, 1, TOP]:
            self.same(Look("a", cost).cost, cost)
        look = Look(cost=4, name="b")
        self.assertEqual((look.name, look.cost), ("b", 4))

    def test_wrong_looks(self):
        for value in NO_NAMES:
            self.refuses(InvalidName, {"value": value}, Look, value)
            self.refuses(InvalidName, {"value": value}, Look, value, -1)
        for value in NO_TIMES:
            self.refuses(InvalidTime, {"value": value}, Look, "a", value)

    def test_call(self):
        for name in ["a", "abcdefgh"]:
            self.same(Call(name).name, name)
        self.same(Call(name="f").name, "f")
        for value in NO_NAMES:
            self.refuses(InvalidName, {"value": value}, Call, value)

    def test_loop(self):
        for low, high in [(0, 0), (0, None), (0, 1), (3, 3), (3, None), (0, TOP), (TOP, TOP), (TOP, None)]:
            loop = Loop(low, high, Work(1))
            self.same(loop.low, low)
            self.same(loop.high, high)
            self.same(loop.code, Work(1))
        loop = Loop(code=Stand(), high=7, low=2)
        self.assertEqual((loop.low, loop.high, loop.code), (2, 7, Stand()))

    def test_wrong_loops(self):
        for value in NO_TIMES:
            self.refuses(InvalidTurns, {"value": value}, Loop, value, 5, Work(1))
            self.refuses(InvalidTurns, {"value": value}, Loop, value, "x", 7)
        for value in STRANGER + [-1, TOP + 1, 3, 0, Work(9)]:
            self.refuses(InvalidTurns, {"value": value}, Loop, 4, value, Work(1))
            self.refuses(InvalidTurns, {"value": value}, Loop, 4, value, 7)
        self.refuses(InvalidTurns, {"value": TOP - 1}, Loop, TOP, TOP - 1, Work(1))
        for value in NO_CODES + [None]:
            self.refuses(InvalidCode, {"value": value}, Loop, 4, 4, value)
            self.refuses(InvalidCode, {"value": value}, Loop, 4, None, value)

    def test_row(self):
        self.assertEqual(Row().parts(), [])
        self.assertEqual(Row(Work(1)).parts(), [Work(1)])
        self.assertEqual(Row(Work(1), Row(), Work(2)).parts(), [Work(1), Row(), Work(2)])

    def test_either(self):
        self.assertEqual(Either(Work(1), Work(2)).parts(), [Work(1), Work(2)])
        self.assertEqual(Either(Row(), Row(), Row()).parts(), [Row(), Row(), Row()])
        self.refuses(InvalidCode, {"value": None}, Either)
        self.refuses(InvalidCode, {"value": None}, Either, Work(1))

    def test_wrong_parts(self):
        for value in NO_CODES:
            self.refuses(InvalidCode, {"value": value}, Row, value)
            self.refuses(InvalidCode, {"value": value}, Row, Work(1), value, 99)
            self.refuses(InvalidCode, {"value": value}, Either, value)
            self.refuses(InvalidCode, {"value": value}, Either, Work(1), value, 99)
        self.refuses(InvalidCode, {"value": 7}, Row, of_size(200), 7)

    def test_leaves(self):
        for code in [Work(1), Look("a"), Stand(), Call("f"), Leave(), Return()]:
            self.assertEqual(code.parts(), [])
            self.assertEqual(code.depth(), 1)
            self.assertEqual(len(code), 1)

    def test_all_are_codes(self):
        codes = [Work(1), Look("a"), Stand(), Row(), Either(Work(1), Work(2)), Loop(0, 1, Work(1)), Call("f"),
                 Leave(), Return()]
        for at, code in enumerate(codes):
            self.assertIsInstance(code, Code)
            self.assertEqual([isinstance(code, kind) for kind in CLASSES], [k == at for k in range(9)])

    def test_parts_are_new_lists(self):
        for code in [Row(Work(1), Work(2)), Either(Work(1), Work(2)), Loop(0, 1, Work(1)), Work(1), Row()]:
            parts = code.parts()
            wanted = list(parts)
            parts.append(Stand())
            parts[:1] = []
            self.assertEqual(code.parts(), wanted)
        self.assertEqual(Loop(0, 1, Work(1)).parts(), [Work(1)])

    def test_parts_are_copied(self):
        codes = [Work(1), Work(2)]
        row = Row(*codes)
        codes.append(Work(3))
        self.assertEqual(row.parts(), [Work(1), Work(2)])
        self.assertEqual(len(row), 3)


class SizeTest(Case):
    def test_sizes(self):
        self.assertEqual(len(Row()), 1)
        self.assertEqual(len(Row(Work(1), Work(2))), 3)
        self.assertEqual(len(Either(Work(1), Row(Work(2), Stand()))), 5)
        self.assertEqual(len(Loop(0, None, Either(Leave(), Return()))), 4)
        self.assertEqual(len(Row(of_size(50), of_size(60), Loop(1, 1, of_size(30)))), 142)

    def test_depths(self):
        self.assertEqual(Row().depth(), 1)
        self.assertEqual(Row(Work(1)).depth(), 2)
        self.assertEqual(Row(Work(1), nested(5), nested(3), Stand()).depth(), 6)
        self.assertEqual(Either(nested(4), Work(1)).depth(), 5)
        self.assertEqual(Either(Work(1), nested(4)).depth(), 5)
        self.assertEqual(Loop(0, 0, nested(4)).depth(), 5)

    def test_size_200_and_201(self):
        self.assertEqual(len(of_size(200)), 200)
        self.assertEqual(len(Row(of_size(100), of_size(99))), 200)
        self.assertEqual(len(Either(*[Work(1)] * 199)), 200)
        self.assertEqual(len(Loop(0, 1, of_size(199))), 200)
        self.refuses(InvalidCode, {"value": None}, Row, *[Work(1)] * 200)
        self.refuses(InvalidCode, {"value": None}, Row, of_size(100), of_size(100))
        self.refuses(InvalidCode, {"value": None}, Row, of_size(200))
        self.refuses(InvalidCode, {"value": None}, Either, *[Work(1)] * 200)
        self.refuses(InvalidCode, {"value": None}, Either, of_size(199), Work(1))
        self.refuses(InvalidCode, {"value": None}, Loop, 0, 1, of_size(200))

    def test_depth_25_and_26(self):
        deep = nested(25)
        self.assertEqual(deep.depth(), 25)
        self.assertEqual(Loop(0, 1, nested(24)).depth(), 25)
        self.assertEqual(Either(Work(1), nested(24)).depth(), 25)
        self.refuses(InvalidCode, {"value": None}, Row, deep)
        self.refuses(InvalidCode, {"value": None}, Row, Work(1), deep)
        self.refuses(InvalidCode, {"value": None}, Either, Work(1), deep)
        self.refuses(InvalidCode, {"value": None}, Loop, 0, 1, deep)

    def test_size_and_depth_by_signs(self):
        self.assertEqual(len(of_size(100) + of_size(100)), 199)
        self.assertEqual(len(of_size(200) + Row()), 200)
        self.refuses(InvalidCode, {"value": None}, operator.add, of_size(200), Work(1))
        self.refuses(InvalidCode, {"value": None}, operator.or_, of_size(100), of_size(100))
        self.refuses(InvalidCode, {"value": None}, operator.mul, of_size(200), 2)
        self.refuses(InvalidCode, {"value": None}, operator.mul, nested(25), 2)
        self.refuses(InvalidCode, {"value": None}, operator.or_, nested(25), Work(1))
        self.assertEqual((nested(25) + nested(25)).depth(), 25)
        self.assertEqual((nested(24) * 2).depth(), 25)


class EqualityTest(Case):
    def test_equal_codes(self):
        for at, one in enumerate(some_codes()):
            for k, other in enumerate(some_codes()):
                with self.subTest(at=at, k=k):
                    self.assertIs(one == other, at == k)
                    self.assertIs(one != other, at != k)

    def test_other_values(self):
        for code in some_codes():
            for value in STRANGE + [0, 1, "a", "f", Span(1), [Work(1)], (Work(1), Work(2)), Work, Row]:
                self.assertIs(code == value, False)
                self.assertIs(value == code, False)
                self.assertIs(code != value, True)


class SignsTest(Case):
    def test_rows(self):
        one, two, three = Work(1), Work(2), Work(3)
        self.same(one + two, Row(one, two))
        self.same(Row(one, two) + three, Row(one, two, three))
        self.same(one + Row(two, three), Row(one, two, three))
        self.same(Row(one) + Row(two, three), Row(one, two, three))
        self.same(one + two + three, Row(one, two, three))
        self.same(Row() + one, Row(one))
        self.same(one + Row(), Row(one))
        self.same(Row() + Row(), Row())
        self.same(Row(Row(one)) + two, Row(Row(one), two))
        self.same(one + Row(Row(two)), Row(one, Row(two)))

    def test_choices_in_rows(self):
        one, two, three = Work(1), Work(2), Work(3)
        self.same(Either(one, two) + three, Row(Either(one, two), three))
        self.same(one + Either(two, three), Row(one, Either(two, three)))
        self.same(Either(one, two) + Either(two, three), Row(Either(one, two), Either(two, three)))
        self.same(Loop(0, 1, Row(one)) + one, Row(Loop(0, 1, Row(one)), one))

    def test_choices(self):
        one, two, three = Work(1), Work(2), Work(3)
        self.same(one | two, Either(one, two))
        self.same(Either(one, two) | three, Either(one, two, three))
        self.same(one | Either(two, three), Either(one, two, three))
        self.same(Either(one, two) | Either(three, one), Either(one, two, three, one))
        self.same(one | two | three, Either(one, two, three))
        self.same(one | one, Either(one, one))

    def test_rows_in_choices(self):
        one, two, three = Work(1), Work(2), Work(3)
        self.same(Row(one, two) | three, Either(Row(one, two), three))
        self.same(one | Row(two, three), Either(one, Row(two, three)))
        self.same(Row() | Row(), Either(Row(), Row()))
        self.same(Either(Either(one, two), three) | one, Either(Either(one, two), three, one))
        self.same(one + two | three + one, Either(Row(one, two), Row(three, one)))

    def test_all_kinds_take_the_signs(self):
        for code in some_codes():
            parts = code.parts() if isinstance(code, Row) else [code]
            self.same(code + Stand(), Row(*parts, Stand()))
            self.same(Stand() + code, Row(Stand(), *parts))
            parts = code.parts() if isinstance(code, Either) else [code]
            self.same(code | Stand(), Either(*parts, Stand()))
            self.same(Stand() | code, Either(Stand(), *parts))
            self.same(code * 3, Loop(3, 3, code))

    def test_turns(self):
        for count in [0, 1, 2, TOP]:
            self.same(Work(1) * count, Loop(count, count, Work(1)))
        self.same(Work(1) * 2 * 3, Loop(3, 3, Loop(2, 2, Work(1))))

    def test_wrong_right_sides(self):
        for code in some_codes():
            for value in NO_CODES + [None]:
                self.refuses(InvalidCode, {"value": value}, operator.add, code, value)
                self.refuses(InvalidCode, {"value": value}, operator.or_, code, value)
            for value in NO_TIMES:
                self.refuses(InvalidTurns, {"value": value}, operator.mul, code, value)

    def test_sides_stay(self):
        one, other = Row(Work(1)), Row(Work(2))
        one + other
        one | other
        one * 2
        self.assertEqual((one, other), (Row(Work(1)), Row(Work(2))))
        either = Either(Work(1), Work(2))
        either | either
        self.assertEqual(either, Either(Work(1), Work(2)))


class InTest(Case):
    def test_looks(self):
        code = Row(Work(1), Loop(0, 2, Either(Look("ab"), Row(Stand(), Look("c", 5)))), Call("f"))
        for name in ["ab", "c"]:
            self.assertIs(name in code, True)
        for name in ["a", "b", "f", "abc", "d", ""]:
            self.assertIs(name in code, False)
        self.assertIs("a" in Look("a"), True)
        self.assertIs("b" in Look("a"), False)
        self.assertIs("a" in Call("a"), False)
        self.assertIs("a" in Row(), False)
        self.assertIs("a" in Loop(0, 0, Look("a")), True)
        self.assertIs("a" in Either(Work(1), Look("a")), True)

    def test_any_value(self):
        for code in some_codes() + [Look("a")]:
            for value in STRANGE + [0, 5, Look("a"), Span(0), ["a"], ("a",), b"a", Same()]:
                self.assertIs(value in code, False)

    def test_each_kind(self):
        for code in some_codes():
            wanted = {piece.name for piece in pieces_of(code) if isinstance(piece, Look)}
            for name in ["a", "b", "f", "x", "abcdefgh"]:
                self.assertIs(name in code, name in wanted)


class PiecesTest(Case):
    def test_leaves(self):
        for code in [Work(1), Look("a"), Stand(), Call("f"), Leave(), Return(), Row()]:
            self.assertEqual(list(pieces_of(code)), [code])

    def test_order(self):
        inner = Either(Work(2), Row(Look("a"), Stand()))
        code = Row(Work(1), Loop(0, None, inner), Row(), Call("f"))
        self.assertEqual(list(pieces_of(code)), [
            code, Work(1), Loop(0, None, inner), inner, Work(2), Row(Look("a"), Stand()), Look("a"), Stand(),
            Row(), Call("f"),
        ])

    def test_is_a_generator(self):
        pieces = pieces_of(code=Row(Work(1), Work(2)))
        self.assertEqual(next(pieces), Row(Work(1), Work(2)))
        self.assertEqual(next(pieces), Work(1))
        self.assertEqual(next(pieces), Work(2))
        with self.assertRaises(StopIteration):
            next(pieces)

    def test_as_many_as_the_size(self):
        for code in some_codes() + [of_size(200), nested(25)]:
            self.assertEqual(len(list(pieces_of(code))), len(code))


if __name__ == "__main__":
    unittest.main()
