"""Quotients of two integers."""
from math import gcd
from widestkind.errors import ByZero


class Ratio:
    """The quotient of two integers, in lowest terms, with a bottom above 0."""

    def __init__(self, top, bottom=1):
        if bottom == 0:
            raise ByZero()
        common = gcd(top, bottom)
        if bottom < 0:
            common = -common
        self._top = top // common
        self._bottom = bottom // common

    @property
    def top(self):
        """The integer above."""
        return self._top

    @property
    def bottom(self):
        """The integer below, which is above 0."""
        return self._bottom

    def __add__(self, other):
        top, bottom = terms(other)
        return Ratio(self._top * bottom + top * self._bottom, self._bottom * bottom)

    def __sub__(self, other):
        top, bottom = terms(other)
        return Ratio(self._top * bottom - top * self._bottom, self._bottom * bottom)

    def __mul__(self, other):
        top, bottom = terms(other)
        return Ratio(self._top * top, self._bottom * bottom)

    def __eq__(self, other):
        if isinstance(other, Ratio):
            return self._top == other.top and self._bottom == other.bottom
        if isinstance(other, int) and not isinstance(other, bool):
            return self._bottom == 1 and self._top == other
        return False

    def over(self, number):
        """The quotient of this one and a number."""
        top, bottom = terms(number)
        return Ratio(self._top * bottom, self._bottom * top)

    def below(self, number):
        """Whether this one is less than a number."""
        top, bottom = terms(number)
        return self._top * bottom < top * self._bottom

    def written(self):
        """The quotient in decimal notation."""
        if self._bottom == 1:
            return str(self._top)
        return str(self._top) + "/" + str(self._bottom)


def terms(number):
    """The integers above and below of an integer or a Ratio."""
    if isinstance(number, Ratio):
        return number.top, number.bottom
    return number, 1
