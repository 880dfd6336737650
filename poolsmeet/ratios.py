"""Exact numbers: ratios of two integers in lowest terms."""

from math import gcd

from poolsmeet.errors import InvalidNumber

MOST_DIGITS = 1000


class Ratio:
    """The exact number top / bottom, in lowest terms and with a positive bottom."""

    def __init__(self, top, bottom=1):
        if bottom == 0:
            raise InvalidNumber(0)
        shared = gcd(top, bottom)
        if bottom < 0:
            shared = -shared
        self.top = top // shared
        self.bottom = bottom // shared

    @classmethod
    def of(cls, value):
        """Return the ratio of an integer or of a ratio."""
        if isinstance(value, Ratio):
            return value
        if not is_number(value):
            raise InvalidNumber(value)
        return cls(value)

    @classmethod
    def read(cls, text):
        """Return the ratio whose text, as str gives it, is this one."""
        first, slash, second = text.partition("/")
        if first == "-0" or not is_group(first.removeprefix("-")):
            raise InvalidNumber(text)
        if not slash:
            return cls(int(first))
        if not is_group(second):
            raise InvalidNumber(text)
        top, bottom = int(first), int(second)
        if bottom < 2 or gcd(top, bottom) > 1:
            raise InvalidNumber(text)
        return cls(top, bottom)

    @property
    def is_whole(self):
        """Tell whether the value is an integer."""
        return self.bottom == 1

    @property
    def floor(self):
        """The greatest integer that is at most the value."""
        return self.top // self.bottom

    def over(self, other):
        """Return the quotient of this ratio and a number."""
        divisor = Ratio.of(other)
        # A divisor of 0 gives the bottom 0, which the constructor rejects with the error that is due.
        return Ratio(self.top * divisor.bottom, self.bottom * divisor.top)

    def __add__(self, other):
        if not is_number(other):
            return NotImplemented
        number = Ratio.of(other)
        return Ratio(self.top * number.bottom + number.top * self.bottom, self.bottom * number.bottom)

    def __radd__(self, other):
        return self + other

    def __sub__(self, other):
        if not is_number(other):
            return NotImplemented
        number = Ratio.of(other)
        return Ratio(self.top * number.bottom - number.top * self.bottom, self.bottom * number.bottom)

    def __rsub__(self, other):
        return -self + other

    def __mul__(self, other):
        # Other kinds, such as a rain, multiply themselves by a ratio on their left.
        if not is_number(other):
            return NotImplemented
        number = Ratio.of(other)
        return Ratio(self.top * number.top, self.bottom * number.bottom)

    def __rmul__(self, other):
        return self * other

    def __floordiv__(self, other):
        if not is_number(other):
            return NotImplemented
        return self.over(other).floor

    def __mod__(self, other):
        if not is_number(other):
            return NotImplemented
        return self - other * (self // other)

    def __neg__(self):
        return Ratio(-self.top, self.bottom)

    def __abs__(self):
        return Ratio(abs(self.top), self.bottom)

    def __bool__(self):
        return bool(self.top)

    def __eq__(self, other):
        return is_number(other) and lead(self, other) == 0

    def __ne__(self, other):
        return not self == other

    def __lt__(self, other):
        if not is_number(other):
            return NotImplemented
        return lead(self, other) < 0

    def __le__(self, other):
        if not is_number(other):
            return NotImplemented
        return lead(self, other) <= 0

    def __gt__(self, other):
        if not is_number(other):
            return NotImplemented
        return lead(self, other) > 0

    def __ge__(self, other):
        if not is_number(other):
            return NotImplemented
        return lead(self, other) >= 0

    def __str__(self):
        if self.bottom == 1:
            return str(self.top)
        return f"{self.top}/{self.bottom}"

    def __repr__(self):
        return f"Ratio({self.top}, {self.bottom})"


def is_number(value):
    """Tell whether the value is an integer, which True and False are not, or a ratio."""
    return isinstance(value, (int, Ratio)) and not isinstance(value, bool)


def is_group(digits):
    """Tell whether the text is a group of digits as they are written in a ratio."""
    # isdigit alone would also take digits of other scripts.
    if not digits.isascii() or not digits.isdigit() or len(digits) > MOST_DIGITS:
        return False
    return digits == "0" or not digits.startswith("0")


def lead(one, other):
    """Return an integer that has the sign of the ratio one minus the number other."""
    if isinstance(other, Ratio):
        return one.top * other.bottom - other.top * one.bottom
    return one.top - other * one.bottom
