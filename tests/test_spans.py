"""Point 4 and stoppoints/spans.py."""

import operator
import unittest

from stoppoints.codes import Work
from stoppoints.errors import InvalidTime
from stoppoints.spans import Span, greatest

from cases import STRANGE, STRANGER, TOP, Case

ENDLESS = Span.endless()
# In their order; the last one is endless.
TIMES = [0, 1, 2, 5, TOP - 1, TOP, TOP + 1, 10 ** 59, None]
ORDERS = [operator.lt, operator.le, operator.gt, operator.ge]


class SpanTest(Case):
    def test_time(self):
        for time in TIMES:
            self.same(Span(time).time, time)
        self.same(Span(time=7).time, 7)

    def test_endless(self):
        self.assertIs(type(Span.endless()), Span)
        self.assertIsNone(Span.endless().time)
        self.assertIs(Span.endless().is_endless(), True)
        self.assertIs(Span(None).is_endless(), True)
        for time in [0, 1, TOP, 10 ** 59]:
            self.assertIs(Span(time).is_endless(), False)

    def test_wrong_times(self):
        for value in STRANGER + [-1, -TOP, Span(1), Work(1)]:
            self.refuses(InvalidTime, {"value": value}, Span, value)
        self.refuses(InvalidTime, {"value": -1}, Span, time=-1)


class SumTest(Case):
    def test_spans(self):
        for one in TIMES:
            for other in TIMES:
                sum_of_both = None if one is None or other is None else one + other
                result = Span(one) + Span(other)
                self.assertIs(type(result), Span)
                self.same(result.time, sum_of_both)

    def test_integers_on_either_side(self):
        for time in TIMES:
            for number in [0, 1, 4, TOP, TOP + 1]:
                expected = None if time is None else time + number
                self.same((Span(time) + number).time, expected)
                self.same((number + Span(time)).time, expected)
                self.assertIs(type(number + Span(time)), Span)

    def test_other_sides(self):
        for time in [0, 3, None]:
            for value in STRANGE + [-1, -TOP, Work(1)]:
                self.refuses(InvalidTime, {"value": value}, operator.add, Span(time), value)
        for time in [0, 3, None]:
            for value in STRANGE + [-1, -TOP]:
                self.refuses(InvalidTime, {"value": value}, operator.add, value, Span(time))

    def test_operands_stay(self):
        one, other = Span(3), Span(4)
        one + other
        one + 5
        5 + one
        one * 6
        self.assertEqual((one.time, other.time), (3, 4))

    def test_in_place(self):
        span = first = Span(3)
        span += Span(4)
        span += 5
        span *= 2
        self.assertEqual((span.time, first.time), (24, 3))


class ProductTest(Case):
    def test_times(self):
        for time in TIMES[:-1]:
            for number in [0, 1, 2, 3, TOP, TOP + 1]:
                self.same((Span(time) * number).time, time * number)
                self.same((number * Span(time)).time, time * number)
                self.assertIs(type(number * Span(time)), Span)

    def test_endless_times(self):
        for number in [1, 2, TOP]:
            self.assertTrue((ENDLESS * number).is_endless())
            self.assertTrue((number * ENDLESS).is_endless())

    def test_no_times_endless(self):
        self.same((ENDLESS * 0).time, 0)
        self.same((0 * ENDLESS).time, 0)

    def test_other_sides(self):
        for time in [0, 3, None]:
            for value in STRANGE + [-1, -TOP, Span(2), ENDLESS]:
                self.refuses(InvalidTime, {"value": value}, operator.mul, Span(time), value)
        for time in [0, 3, None]:
            for value in STRANGE + [-1, -TOP]:
                self.refuses(InvalidTime, {"value": value}, operator.mul, value, Span(time))


class OrderTest(Case):
    def test_order(self):
        for at, one in enumerate(TIMES):
            for k, other in enumerate(TIMES):
                with self.subTest(one=one, other=other):
                    for compare in ORDERS:
                        self.assertIs(compare(Span(one), Span(other)), compare(at, k))
                    self.assertIs(Span(one) == Span(other), at == k)
                    self.assertIs(Span(one) != Span(other), at != k)

    def test_endless_is_equal_to_itself(self):
        self.assertIs(Span(None) == Span.endless(), True)
        self.assertIs(Span(None) <= Span.endless(), True)
        self.assertIs(Span(None) < Span.endless(), False)

    def test_order_with_other_values(self):
        for span in [Span(0), Span(3), ENDLESS]:
            for value in STRANGE + [0, 3, TOP, Work(3)]:
                for compare in ORDERS:
                    with self.assertRaises(TypeError):
                        compare(span, value)
                    with self.assertRaises(TypeError):
                        compare(value, span)

    def test_other_values_are_not_equal(self):
        for span in [Span(0), Span(1), ENDLESS]:
            for value in STRANGE + [0, 1, TOP, Work(1)]:
                self.assertIs(span == value, False)
                self.assertIs(value == span, False)
                self.assertIs(span != value, True)


class GreatestTest(Case):
    def test_nothing(self):
        self.assertIsNone(greatest([]))
        self.assertIsNone(greatest([None]))
        self.assertIsNone(greatest([None, None, None]))

    def test_spans(self):
        self.assertEqual(greatest([Span(3)]), Span(3))
        self.assertEqual(greatest([Span(3), Span(5), Span(4)]), Span(5))
        self.assertEqual(greatest([Span(5), Span(4), Span(3)]), Span(5))
        self.assertEqual(greatest([Span(3), Span(4), Span(5)]), Span(5))
        self.assertEqual(greatest([Span(0), Span(0)]), Span(0))
        self.assertEqual(greatest([Span(TOP), ENDLESS, Span(TOP + 1)]), ENDLESS)
        self.assertEqual(greatest(spans=[ENDLESS, Span(1)]), ENDLESS)

    def test_nones_and_spans(self):
        self.assertEqual(greatest([None, Span(0)]), Span(0))
        self.assertEqual(greatest([Span(0), None]), Span(0))
        self.assertEqual(greatest([None, Span(2), None, Span(7), None]), Span(7))
        self.assertEqual(greatest([None, ENDLESS, None]), ENDLESS)

    def test_list_stays(self):
        spans = [Span(2), None, Span(1)]
        greatest(spans)
        self.assertEqual(spans, [Span(2), None, Span(1)])


if __name__ == "__main__":
    unittest.main()
