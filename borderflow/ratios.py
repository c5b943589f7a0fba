"""Ratios of two numbers, in lowest terms."""

from math import gcd

from borderflow.basics import is_whole, power_of
from borderflow.errors import InvalidNumber
from borderflow.texts import number_text

PRIMES = (2, 3, 5, 7, 11, 13, 17, 19, 23, 29, 31, 37, 41, 43, 47, 53, 59, 61)


class Ratio:
    """A ratio of a number from 0 and a number from 1."""

    def __init__(self, top, bottom=1):
        if not is_whole(top) or top < 0:
            raise InvalidNumber(top)
        if not is_whole(bottom) or bottom < 1:
            raise InvalidNumber(bottom)
        shared = gcd(top, bottom)
        self.top = top // shared
        self.bottom = bottom // shared

    def __mul__(self, other):
        if not isinstance(other, Ratio):
            return NotImplemented
        return Ratio(self.top * other.top, self.bottom * other.bottom)

    def __invert__(self):
        if self.top == 0:
            raise InvalidNumber(0)
        return Ratio(self.bottom, self.top)

    def raised(self, k):
        """The power for a number k; below 0 that of the reciprocal."""
        if k >= 0:
            return Ratio(power_of(self.top, k), power_of(self.bottom, k))
        if self.top == 0:
            raise InvalidNumber(0)
        return Ratio(power_of(self.bottom, -k), power_of(self.top, -k))

    def __pow__(self, other):
        return self.raised(other)

    def power(self, prime):
        """How often a prime divides the upper number, less how often it divides the lower one."""
        if not is_whole(prime) or prime not in PRIMES:
            raise InvalidNumber(prime)
        if self.top == 0:
            raise InvalidNumber(0)
        return times_divided(self.top, prime) - times_divided(self.bottom, prime)

    def __eq__(self, other):
        if not isinstance(other, Ratio):
            return NotImplemented
        return self.top == other.top and self.bottom == other.bottom

    def __str__(self):
        if self.bottom == 1:
            return f"{number_text(self.top)}"
        return f"{number_text(self.top)}/{number_text(self.bottom)}"

    def __repr__(self):
        return f"Ratio({number_text(self.top)}, {number_text(self.bottom)})"


def times_divided(number, prime):
    """How often a prime divides a number above 0."""
    times = 0
    rest = number
    while rest % prime == 0:
        rest = rest // prime
        times = times + 1
    return times


def count_ratio(part, whole):
    """The ratio of two numbers of any size."""
    return Ratio(part, whole)
