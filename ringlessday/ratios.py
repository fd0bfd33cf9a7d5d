"""Exact fractions."""

from math import gcd

from ringlessday.errors import InvalidText
from ringlessday.names import is_integer
from ringlessday.words import number_word, word_of_number


class Ratio:
    """A fraction of two integers, the lower one above 0, in lowest terms."""

    def __init__(self, top, bottom=1):
        if bottom == 0:
            raise ZeroDivisionError("a ratio has no 0 below")
        common = gcd(top, bottom) if bottom > 0 else -gcd(top, bottom)
        self.top = top // common
        self.bottom = bottom // common

    @classmethod
    def read(cls, text):
        terms = terms_of(text)
        if terms is None:
            raise InvalidText(1)
        return cls(terms[0], terms[1])

    def over(self, other):
        term = as_ratio(other)
        return Ratio(self.top * term.bottom, self.bottom * term.top)

    def compare(self, other):
        term = as_ratio(other)
        difference = self.top * term.bottom - term.top * self.bottom
        if difference == 0:
            return 0
        return 1 if difference > 0 else -1

    def floor(self):
        return self.top // self.bottom

    def ceiling(self):
        return -(-self.top // self.bottom)

    def __add__(self, other):
        if not is_term(other):
            return NotImplemented
        term = as_ratio(other)
        return Ratio(self.top * term.bottom + term.top * self.bottom, self.bottom * term.bottom)

    def __radd__(self, other):
        return self + other

    def __sub__(self, other):
        if not is_term(other):
            return NotImplemented
        return self + -as_ratio(other)

    def __rsub__(self, other):
        return -self + other

    def __mul__(self, other):
        if not is_term(other):
            return NotImplemented
        term = as_ratio(other)
        return Ratio(self.top * term.top, self.bottom * term.bottom)

    def __rmul__(self, other):
        return self * other

    def __floordiv__(self, other):
        if not is_term(other):
            return NotImplemented
        term = as_ratio(other)
        return (self.top * term.bottom) // (self.bottom * term.top)

    def __neg__(self):
        return Ratio(-self.top, self.bottom)

    def __abs__(self):
        return Ratio(abs(self.top), self.bottom)

    def __bool__(self):
        return bool(self.top != 0)

    def __eq__(self, other):
        if isinstance(other, Ratio):
            return self.top == other.top and self.bottom == other.bottom
        return is_integer(other) and self.bottom == 1 and self.top == other

    def __str__(self):
        if self.bottom == 1:
            return f"{word_of_number(self.top)}"
        return f"{word_of_number(self.top)}/{word_of_number(self.bottom)}"

    def __repr__(self):
        return f"Ratio({word_of_number(self.top)}, {word_of_number(self.bottom)})"


def is_term(value):
    """Whether any value is a ratio or a number."""
    return isinstance(value, Ratio) or is_integer(value)


def as_ratio(term):
    return term if isinstance(term, Ratio) else Ratio(term)


def terms_of(value):
    """The pair (top, bottom) of any value that is the str of a ratio, None for any other value."""
    if not isinstance(value, str):
        return None
    negative = value.startswith("-")
    words = (value[1:] if negative else value).split("/")
    numbers = [number_word(word) for word in words]
    if len(numbers) > 2 or None in numbers or (negative and numbers[0] == 0):
        return None
    bottom = numbers[1] if len(numbers) == 2 else 1
    # An integer has no bottom in its text.
    if len(numbers) == 2 and (bottom < 2 or gcd(numbers[0], bottom) > 1):
        return None
    return (-numbers[0] if negative else numbers[0], bottom)
