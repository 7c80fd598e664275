"""Growths: an integer for each number, told ones first, then by gains that come again."""

from math import gcd

from layerpost.checks import is_from_zero, is_integer, is_within
from layerpost.errors import BadGrowth, BadNumber, BadText
from layerpost.series import composed_parts, first_number_above, first_number_over, first_values, normal_form
from layerpost.series import outer_parts, rises_of, shifted_parts, summed_parts, value_at
from layerpost.words import number_of, words_of


def are_parts(values, most):
    """Whether any value is a list or tuple of 1 to so many integers from 0 on."""
    if not isinstance(values, (list, tuple)) or not 1 <= len(values) <= most:
        return False
    return all([is_from_zero(value) for value in values])


def numbers_from(words, begin, most):
    """The list of the integers that stand in words from one on, at most so many."""
    numbers = []
    for word in words[begin:begin + most]:
        number = number_of(word)
        if number is None:
            return numbers
        numbers.append(number)
    return numbers


class Growth:
    """A growth; it never changes.

    Besides told and gains it keeps in rises the sums of its first gains, so that
    a value far off is told at once.
    """

    MOST = 2000

    def __init__(self, told, gains=(0,)):
        if not are_parts(told, Growth.MOST):
            raise BadGrowth("told")
        if not are_parts(gains, Growth.MOST):
            raise BadGrowth("gains")
        self.told, self.gains = normal_form(told, gains)
        self.rises = rises_of(self.gains)

    def __eq__(self, other):
        return isinstance(other, Growth) and self.told == other.told and self.gains == other.gains

    def __call__(self, n):
        if not is_within(n, 0, 10 ** 40):
            raise BadNumber(n)
        return value_at(self, n)

    def first(self, n):
        """The tuple of the values at 0 to n - 1."""
        if not is_within(n, 0, Growth.MOST):
            raise BadNumber(n)
        return tuple(first_values(self, n))

    def __add__(self, other):
        if not isinstance(other, Growth):
            raise BadGrowth("other")
        told, gains = summed_parts(self, other)
        return Growth(told, gains)

    def __or__(self, other):
        if not isinstance(other, Growth):
            raise BadGrowth("other")
        told, gains = outer_parts(self, other, True)
        return Growth(told, gains)

    def __and__(self, other):
        if not isinstance(other, Growth):
            raise BadGrowth("other")
        told, gains = outer_parts(self, other, False)
        return Growth(told, gains)

    def __mul__(self, other):
        if not is_within(other, 0, 10 ** 6):
            raise BadNumber(other)
        return Growth([other * value for value in self.told], [other * gain for gain in self.gains])

    def __rmul__(self, other):
        if not is_within(other, 0, 10 ** 6):
            raise BadNumber(other)
        return Growth([other * value for value in self.told], [other * gain for gain in self.gains])

    def after(self, other):
        """The growth that is at each number this one at the value of other."""
        if not isinstance(other, Growth):
            raise BadGrowth("other")
        told, gains = composed_parts(self, other)
        return Growth(told, gains)

    def shifted(self, k):
        """The growth that is at each number n this one at n + k."""
        if not is_within(k, 0, Growth.MOST):
            raise BadNumber(k)
        told, gains = shifted_parts(self, k)
        return Growth(told, gains)

    def first_above(self, other):
        """The least number at which this one is above other, None if there is none."""
        if not isinstance(other, Growth):
            raise BadGrowth("other")
        return first_number_above(self, other)

    def at_most(self, other):
        """Whether this one is nowhere above other."""
        return self.first_above(other) is None

    def first_over(self, value):
        """The least number at which this one is above an integer, None if there is none."""
        if not is_within(value, 0, 10 ** 40):
            raise BadNumber(value)
        return first_number_over(self, value)

    @property
    def is_rising(self):
        """Whether no value is less than the one ahead of it."""
        return all([self.told[at - 1] <= self.told[at] for at in range(1, len(self.told))])

    @property
    def rate(self):
        """The sum of the gains and their number, in lowest terms."""
        common = gcd(self.rises[-1], len(self.gains))
        return self.rises[-1] // common, len(self.gains) // common

    @staticmethod
    def constant(value):
        """The growth with this value at each number."""
        if not is_from_zero(value):
            raise BadNumber(value)
        return Growth((value,))

    @staticmethod
    def ramp(gain, begin=0):
        """The growth that is begin and n times gain."""
        if not is_from_zero(gain):
            raise BadNumber(gain)
        if not is_from_zero(begin):
            raise BadNumber(begin)
        return Growth((begin,), (gain,))

    @staticmethod
    def steps(many):
        """The growth that is n divided by many, rounded up."""
        if not is_integer(many) or not 1 <= many <= Growth.MOST:
            raise BadNumber(many)
        return Growth((0,), [1 if at == 0 else 0 for at in range(many)])

    @staticmethod
    def summed(*growths):
        """The growth that is at each number the sum of all of these."""
        for at, growth in enumerate(growths):
            if not isinstance(growth, Growth):
                raise BadGrowth(at)
        total = Growth.constant(0)
        for growth in growths:
            total = total + growth
        return total

    def __str__(self):
        return " ".join([str(value) for value in [*self.told, "then", *self.gains]])

    @classmethod
    def read(cls, text):
        """The growth with this text."""
        words = words_of(text)
        told = numbers_from(words, 0, Growth.MOST)
        then = len(told)
        if then == 0 or then == len(words) or words[then] != "then":
            raise BadText(0, then)
        gains = numbers_from(words, then + 1, Growth.MOST)
        end = then + 1 + len(gains)
        if not gains or end < len(words):
            raise BadText(0, end)
        growth = cls(told, gains)
        if growth.told != tuple(told) or growth.gains != tuple(gains):
            raise BadText(0, 0)
        return growth
