"""Fractions of integers: the numbers that formulas and series are made of."""

from math import gcd

from seriesforms.errors import DividedByZero, InvalidCount, InvalidNumber, InvalidText

MOST_POWER = 20


def is_whole(value):
    """Whether the value is an integer; True and False are none."""
    return isinstance(value, int) and not isinstance(value, bool)


def is_number(value):
    """Whether the value is an integer or a Ratio."""
    return isinstance(value, Ratio) or is_whole(value)


class Ratio:
    """The fraction top / bottom; it never changes."""

    def __init__(self, top, bottom=1):
        if not is_whole(top):
            raise InvalidNumber(top)
        if not is_whole(bottom):
            raise InvalidNumber(bottom)
        if bottom == 0:
            raise DividedByZero()
        common = gcd(top, bottom)
        if bottom < 0:
            common = -common
        self._top = top // common
        self._bottom = bottom // common

    @classmethod
    def read(cls, text):
        """The fraction with this text."""
        if not _is_text(text):
            raise InvalidText(text)
        top, stroke, bottom = text.partition("/")
        if stroke == "":
            return cls(int(top))
        return cls(int(top), int(bottom))

    @property
    def top(self):
        """The integer above, in lowest terms."""
        return self._top

    @property
    def bottom(self):
        """The integer below, in lowest terms and from 1 on."""
        return self._bottom

    # An operand that is no number is left to its own class: a formula tells
    # by its reflected methods what comes when a Ratio stands ahead of it.

    def __add__(self, other):
        if not is_number(other):
            return NotImplemented
        return _ratio_sum(self, as_ratio(other))

    def __radd__(self, other):
        if not is_number(other):
            return NotImplemented
        return _ratio_sum(as_ratio(other), self)

    def __sub__(self, other):
        if not is_number(other):
            return NotImplemented
        return _ratio_sum(self, -as_ratio(other))

    def __rsub__(self, other):
        if not is_number(other):
            return NotImplemented
        return _ratio_sum(as_ratio(other), -self)

    def __mul__(self, other):
        if not is_number(other):
            return NotImplemented
        return _product(self, as_ratio(other))

    def __rmul__(self, other):
        if not is_number(other):
            return NotImplemented
        return _product(as_ratio(other), self)

    def __floordiv__(self, other):
        if not is_number(other):
            return NotImplemented
        return _floor(self, as_ratio(other))

    def __rfloordiv__(self, other):
        if not is_number(other):
            return NotImplemented
        return _floor(as_ratio(other), self)

    def __mod__(self, other):
        if not is_number(other):
            return NotImplemented
        return _remainder(self, as_ratio(other))

    def __rmod__(self, other):
        if not is_number(other):
            return NotImplemented
        return _remainder(as_ratio(other), self)

    def __pow__(self, other):
        return self.power(other)

    def __neg__(self):
        return Ratio(-self._top, self._bottom)

    def __abs__(self):
        return Ratio(abs(self._top), self._bottom)

    def __bool__(self):
        return bool(self._top)

    def __eq__(self, other):
        if isinstance(other, Ratio):
            return self._top == other.top and self._bottom == other.bottom
        return is_whole(other) and self._bottom == 1 and self._top == other

    def __str__(self):
        if self._bottom == 1:
            return str(self._top)
        return f"{self._top}/{self._bottom}"

    def __repr__(self):
        return f"Ratio({self._top}, {self._bottom})"

    def over(self, other):
        """This fraction divided by another number."""
        if not is_number(other):
            raise InvalidNumber(other)
        return _product(self, _inverse(as_ratio(other)))

    def power(self, exponent):
        """This fraction to the power of an integer from -20 to 20."""
        if not is_whole(exponent) or exponent < -MOST_POWER or exponent > MOST_POWER:
            raise InvalidCount(exponent)
        base = self
        if exponent < 0:
            base = _inverse(self)
        times = abs(exponent)
        return Ratio(_whole_power(base.top, times), _whole_power(base.bottom, times))


def as_ratio(number):
    """The Ratio that is equal to this number."""
    if isinstance(number, Ratio):
        return number
    return Ratio(number)


def _ratio_sum(left, right):
    return Ratio(left.top * right.bottom + right.top * left.bottom, left.bottom * right.bottom)


def _product(left, right):
    return Ratio(left.top * right.top, left.bottom * right.bottom)


def _inverse(ratio):
    """1 divided by the fraction; the new one is refused if the fraction is 0."""
    return Ratio(ratio.bottom, ratio.top)


def _floor(left, right):
    """The greatest integer that is not greater than the quotient."""
    quotient = _product(left, _inverse(right))
    return Ratio(quotient.top // quotient.bottom)


def _remainder(left, right):
    """What the multiple of the right one by the rounded quotient leaves of the left one."""
    return _ratio_sum(left, -_product(right, _floor(left, right)))


def _whole_power(base, times):
    result = 1
    for _ in range(times):
        result = result * base
    return result


def _is_text(text):
    """Whether this is the text of a fraction."""
    if not isinstance(text, str):
        return False
    top, stroke, bottom = text.partition("/")
    if top != "0" and not _is_positive_text(top.removeprefix("-")):
        return False
    if stroke == "":
        return True
    return _is_positive_text(bottom) and bottom != "1" and gcd(int(top), int(bottom)) == 1


def _is_positive_text(text):
    """Whether this is an integer from 1 on, in decimal digits without leading zeros."""
    # There are digits beyond 0 to 9, which int would read but no text of a fraction has.
    return text.isascii() and text.isdigit() and text[0] != "0"
