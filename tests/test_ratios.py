"""INTEGERS, NUMBERS and Ratios: points 2 and 5."""

import unittest
from fractions import Fraction

from notesums.errors import DividedByZero, InvalidNumber
from notesums.ratios import Ratio, as_ratio, is_integer, is_number
from notesums.tables import Table
from wrong import NO_INTEGERS, Odd, refused

GREAT = 123456789012345678901234567890
OTHER_GREAT = 987654321098765432109876543211
INTEGERS = [0, 1, -1, 2, 7, -12, 60, GREAT, -GREAT]
PAIRS = [
    (top, bottom)
    for top in (0, 1, -1, 2, -3, 6, 10, -12, GREAT, -OTHER_GREAT)
    for bottom in (1, -1, 2, 3, -4, 6, 15, GREAT, -OTHER_GREAT)
]
NO_NUMBERS = NO_INTEGERS + [Table({"a": 1}), Ratio]


def fraction(number):
    """A NUMBER as a fraction of Python's own, to compare with."""
    if isinstance(number, Ratio):
        return Fraction(number.top, number.bottom)
    return Fraction(number)


def parts(number):
    return (number.top, number.bottom)


class Kinds(unittest.TestCase):
    def test_integers(self):
        for value in INTEGERS:
            self.assertIs(is_integer(value), True, value)
            self.assertIs(is_number(value), True, value)

    def test_ratios_are_numbers_but_no_integers(self):
        for value in (Ratio(2), Ratio(0), Ratio(-1, 2)):
            self.assertIs(is_integer(value), False)
            self.assertIs(is_number(value), True)

    def test_other_values_are_neither(self):
        for value in NO_NUMBERS:
            self.assertIs(is_integer(value), False, value)
            self.assertIs(is_number(value), False, value)

    def test_by_name(self):
        self.assertIs(is_integer(value=3), True)
        self.assertIs(is_number(value=True), False)

    def test_as_ratio(self):
        self.assertEqual(as_ratio(3), Ratio(3))
        self.assertEqual(as_ratio(Ratio(3, 2)), Ratio(3, 2))
        refused(self, InvalidNumber, NO_NUMBERS, as_ratio)


class Parts(unittest.TestCase):
    def test_lowest_terms(self):
        for top, bottom in PAIRS:
            ratio, expected = Ratio(top, bottom), Fraction(top, bottom)
            self.assertEqual(parts(ratio), (expected.numerator, expected.denominator))
            self.assertIs(type(ratio.top), int)
            self.assertIs(type(ratio.bottom), int)

    def test_written_out(self):
        self.assertEqual(parts(Ratio(6, 4)), (3, 2))
        self.assertEqual(parts(Ratio(6, -4)), (-3, 2))
        self.assertEqual(parts(Ratio(-6, -4)), (3, 2))
        self.assertEqual(parts(Ratio(-6, 3)), (-2, 1))
        self.assertEqual(parts(Ratio(5)), (5, 1))
        self.assertEqual(parts(Ratio(5, -1)), (-5, 1))

    def test_top_0(self):
        for bottom in (1, -1, 2, -7, GREAT, -GREAT):
            self.assertEqual(parts(Ratio(0, bottom)), (0, 1))

    def test_great_numbers(self):
        self.assertEqual(parts(Ratio(GREAT, GREAT)), (1, 1))
        self.assertEqual(parts(Ratio(2 * 10 ** 29, -4 * 10 ** 29)), (-1, 2))
        self.assertEqual(parts(Ratio(GREAT, 3 * GREAT)), (1, 3))
        self.assertEqual(parts(Ratio(7 * GREAT, -2 * GREAT)), (-7, 2))
        self.assertEqual(parts(Ratio(GREAT, OTHER_GREAT)), (GREAT, OTHER_GREAT))

    def test_by_name(self):
        self.assertEqual(parts(Ratio(top=6, bottom=4)), (3, 2))
        self.assertEqual(parts(Ratio(bottom=4, top=6)), (3, 2))
        self.assertEqual(parts(Ratio(6, bottom=4)), (3, 2))
        self.assertEqual(parts(Ratio(top=6)), (6, 1))

    def test_sign(self):
        for top, bottom in PAIRS:
            value = Fraction(top, bottom)
            expected = 0 if value == 0 else 1 if value > 0 else -1
            sign = Ratio(top, bottom).sign
            self.assertEqual(sign, expected)
            self.assertIs(type(sign), int)

    def test_parts_cannot_be_assigned(self):
        ratio = Ratio(1, 2)
        for name in ("top", "bottom", "sign"):
            with self.assertRaises(AttributeError):
                setattr(ratio, name, 5)
        self.assertEqual(parts(ratio), (1, 2))

    def test_wrong_top(self):
        wrong = NO_NUMBERS + [Ratio(1)]
        refused(self, InvalidNumber, wrong, Ratio)
        refused(self, InvalidNumber, wrong, lambda value: Ratio(value, 2))
        refused(self, InvalidNumber, wrong, lambda value: Ratio(top=value))

    def test_wrong_bottom(self):
        wrong = NO_NUMBERS + [0, Ratio(1), Ratio(0)]
        refused(self, InvalidNumber, wrong, lambda value: Ratio(1, value))
        refused(self, InvalidNumber, wrong, lambda value: Ratio(0, value))
        refused(self, InvalidNumber, wrong, lambda value: Ratio(1, bottom=value))

    def test_of_two_wrong_parameters_the_first_one(self):
        for bottom in NO_NUMBERS + [0]:
            refused(self, InvalidNumber, NO_NUMBERS, lambda value: Ratio(value, bottom))
            refused(self, InvalidNumber, ["top"], lambda value: Ratio(bottom=bottom, top=value))


class Texts(unittest.TestCase):
    def test_str(self):
        cases = [
            (Ratio(3), "3"), (Ratio(-3), "-3"), (Ratio(0), "0"), (Ratio(0, -5), "0"), (Ratio(1, 2), "1/2"),
            (Ratio(3, -6), "-1/2"), (Ratio(4, 2), "2"), (Ratio(GREAT), str(GREAT)), (Ratio(1, GREAT), f"1/{GREAT}"),
        ]
        for ratio, text in cases:
            self.assertEqual(str(ratio), text)

    def test_repr(self):
        cases = [
            (Ratio(3), "Ratio(3, 1)"), (Ratio(-3), "Ratio(-3, 1)"), (Ratio(0, 7), "Ratio(0, 1)"),
            (Ratio(2, 4), "Ratio(1, 2)"), (Ratio(1, -2), "Ratio(-1, 2)"), (Ratio(GREAT, 1), f"Ratio({GREAT}, 1)"),
        ]
        for ratio, text in cases:
            self.assertEqual(repr(ratio), text)


class Operators(unittest.TestCase):
    def each_two(self):
        """Pairs of a Ratio and a NUMBER."""
        for top, bottom in PAIRS:
            for right in INTEGERS + [Ratio(*pair) for pair in PAIRS]:
                yield Ratio(top, bottom), right

    def same(self, ratio, expected):
        self.assertIs(type(ratio), Ratio)
        self.assertEqual(parts(ratio), (expected.numerator, expected.denominator))

    def test_against_fractions(self):
        for left, right in self.each_two():
            one, other = fraction(left), fraction(right)
            self.same(left + right, one + other)
            self.same(left - right, one - other)
            self.same(left * right, one * other)
            self.assertIs(left.is_below(right), one < other)
            if other != 0:
                self.same(left.over(right), one / other)
            self.assertEqual((fraction(left), fraction(right)), (one, other))

    def test_minus_in_front(self):
        for top, bottom in PAIRS:
            ratio = Ratio(top, bottom)
            self.same(-ratio, -Fraction(top, bottom))
            self.same(ratio, Fraction(top, bottom))

    def test_written_out(self):
        half = Ratio(1, 2)
        self.assertEqual(parts(half + Ratio(1, 3)), (5, 6))
        self.assertEqual(parts(half + half), (1, 1))
        self.assertEqual(parts(half - 1), (-1, 2))
        self.assertEqual(parts(half - Ratio(1, 3)), (1, 6))
        self.assertEqual(parts(half * -4), (-2, 1))
        self.assertEqual(parts(half * 0), (0, 1))
        self.assertEqual(parts(half.over(-2)), (-1, 4))
        self.assertEqual(parts(half.over(Ratio(-3, 4))), (-2, 3))
        self.assertEqual(parts(Ratio(0).over(-5)), (0, 1))
        self.assertEqual(parts(-half), (-1, 2))

    def test_is_below(self):
        self.assertIs(Ratio(1, 3).is_below(Ratio(1, 2)), True)
        self.assertIs(Ratio(1, 2).is_below(Ratio(1, 3)), False)
        self.assertIs(Ratio(1, 2).is_below(Ratio(2, 4)), False)
        self.assertIs(Ratio(1, 2).is_below(1), True)
        self.assertIs(Ratio(2).is_below(2), False)
        self.assertIs(Ratio(-1, 2).is_below(0), True)
        self.assertIs(Ratio(-1, 2).is_below(Ratio(-1, 3)), True)
        self.assertIs(Ratio(GREAT).is_below(GREAT + 1), True)

    def test_by_name(self):
        self.assertEqual(Ratio(1).over(other=2), Ratio(1, 2))
        self.assertIs(Ratio(1).is_below(other=2), True)

    def test_divided_by_zero(self):
        for left in (Ratio(0), Ratio(1, 2), Ratio(-GREAT)):
            for zero in (0, Ratio(0), Ratio(0, -3)):
                with self.assertRaises(DividedByZero) as held:
                    left.over(zero)
                self.assertIs(type(held.exception), DividedByZero)

    def test_wrong_values_on_the_right(self):
        for left in (Ratio(0), Ratio(3, 2)):
            refused(self, InvalidNumber, NO_NUMBERS, lambda value: left + value)
            refused(self, InvalidNumber, NO_NUMBERS, lambda value: left - value)
            refused(self, InvalidNumber, NO_NUMBERS, lambda value: left * value)
            refused(self, InvalidNumber, NO_NUMBERS, left.over)
            refused(self, InvalidNumber, NO_NUMBERS, left.is_below)
            self.assertIn(parts(left), [(0, 1), (3, 2)])

    def test_assignment_with_an_operator_leaves_the_old_object(self):
        old = ratio = Ratio(1, 2)
        ratio += 1
        ratio *= 3
        ratio -= Ratio(1, 2)
        self.assertEqual(ratio, Ratio(4))
        self.assertEqual(old, Ratio(1, 2))


class Totals(unittest.TestCase):
    def test_of_none(self):
        self.assertEqual(Ratio.total(), Ratio(0))

    def test_of_one(self):
        self.assertEqual(Ratio.total(3), Ratio(3))
        self.assertEqual(Ratio.total(Ratio(-1, 2)), Ratio(-1, 2))

    def test_of_several(self):
        self.assertEqual(Ratio.total(1, Ratio(1, 2), -3, Ratio(1, 3)), Ratio(-7, 6))
        self.assertEqual(Ratio.total(GREAT, -GREAT), Ratio(0))
        numbers = [Ratio(1, k) for k in range(1, 30)] + INTEGERS
        expected = sum([fraction(number) for number in numbers])
        self.assertEqual(parts(Ratio.total(*numbers)), (expected.numerator, expected.denominator))
        self.assertIs(type(Ratio.total(1, 2)), Ratio)

    def test_called_off_an_object(self):
        self.assertEqual(Ratio(5).total(1, 2), Ratio(3))

    def test_wrong_values(self):
        refused(self, InvalidNumber, NO_NUMBERS, Ratio.total)
        refused(self, InvalidNumber, NO_NUMBERS, lambda value: Ratio.total(1, Ratio(1, 2), value))
        refused(self, InvalidNumber, NO_NUMBERS, lambda value: Ratio.total(value, 1, "later"))


class Equality(unittest.TestCase):
    def test_equal(self):
        self.assertTrue(Ratio(1, 2) == Ratio(-2, -4))
        self.assertFalse(Ratio(1, 2) != Ratio(-2, -4))
        self.assertTrue(Ratio(0, 3) == Ratio(0, -5))

    def test_not_equal(self):
        for other in (Ratio(1, 3), Ratio(1), Ratio(-1, 2), Ratio(2), Ratio(3, 2), Ratio(0)):
            self.assertFalse(Ratio(1, 2) == other)
            self.assertTrue(Ratio(1, 2) != other)

    def test_not_equal_to_values_of_another_kind(self):
        for other in (2, "2", (2, 1), [2, 1], None, True, Fraction(2), Odd(), {}, Table()):
            self.assertFalse(Ratio(2) == other)
            self.assertTrue(Ratio(2) != other)
            self.assertFalse(other == Ratio(2))
        self.assertFalse(Ratio(1) == True)  # noqa: E712
        self.assertFalse(Ratio(0) == False)  # noqa: E712
        self.assertFalse(Ratio(0) == 0)


class Listed(unittest.TestCase):
    def test_each_method_is_defined_in_the_class(self):
        names = [
            "top", "bottom", "sign", "__add__", "__sub__", "__mul__", "__neg__", "over", "is_below", "total",
            "__str__", "__repr__", "__eq__", "__init__",
        ]
        for name in names:
            self.assertIn(name, vars(Ratio))
        for made in (Ratio, is_integer, is_number):
            self.assertEqual(made.__module__, "notesums.ratios")
        for name in ("top", "bottom", "sign"):
            self.assertIsInstance(vars(Ratio)[name], property)
        self.assertIsInstance(vars(Ratio)["total"], classmethod)


if __name__ == "__main__":
    unittest.main()
