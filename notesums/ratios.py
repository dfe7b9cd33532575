"""Integers, numbers and ratios in lowest terms."""

from math import gcd

from notesums.errors import DividedByZero, InvalidNumber


def is_integer(value):
    """Whether any value is an INTEGER."""
    # For Python a bool is an int as well.
    return isinstance(value, int) and not isinstance(value, bool)


def is_number(value):
    """Whether any value is a NUMBER: an INTEGER or a Ratio."""
    return is_integer(value) or isinstance(value, Ratio)


def as_ratio(value):
    """The Ratio that is equal in worth to a NUMBER."""
    if isinstance(value, Ratio):
        return value
    return Ratio(value)


class Ratio:
    """A rational number, which does not change."""

    def __init__(self, top, bottom=1):
        if not is_integer(top):
            raise InvalidNumber(top)
        if not is_integer(bottom) or bottom == 0:
            raise InvalidNumber(bottom)
        common = gcd(top, bottom)
        if bottom < 0:
            # Dividing by a number below 0 brings the sign to the top.
            common = -common
        self._top = top // common
        self._bottom = bottom // common

    @classmethod
    def total(cls, *numbers):
        """The sum of NUMBERs."""
        result = cls(0)
        for number in numbers:
            result = result + number
        return result

    @property
    def top(self):
        return self._top

    @property
    def bottom(self):
        return self._bottom

    @property
    def sign(self):
        """-1, 0 or 1."""
        if self._top < 0:
            return -1
        return 0 if self._top == 0 else 1

    def __add__(self, other):
        right = as_ratio(other)
        top = self._top * right.bottom + right.top * self._bottom
        return Ratio(top, self._bottom * right.bottom)

    def __sub__(self, other):
        right = as_ratio(other)
        top = self._top * right.bottom - right.top * self._bottom
        return Ratio(top, self._bottom * right.bottom)

    def __mul__(self, other):
        right = as_ratio(other)
        return Ratio(self._top * right.top, self._bottom * right.bottom)

    def __neg__(self):
        return Ratio(-self._top, self._bottom)

    def over(self, other):
        """This number divided by a NUMBER."""
        right = as_ratio(other)
        if right.top == 0:
            raise DividedByZero()
        return Ratio(self._top * right.bottom, self._bottom * right.top)

    def is_below(self, other):
        """Whether this number is less than a NUMBER."""
        right = as_ratio(other)
        return self._top * right.bottom < right.top * self._bottom

    def __eq__(self, other):
        return isinstance(other, Ratio) and self._top == other._top and self._bottom == other._bottom

    def __str__(self):
        if self._bottom == 1:
            return str(self._top)
        return f"{self._top}/{self._bottom}"

    def __repr__(self):
        return f"Ratio({self._top}, {self._bottom})"
