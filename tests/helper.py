"""What several tests need: numbers that look mixed but are the same at each run, and a reckoning apart from gaze."""

from fractions import Fraction

GREAT = 10 ** 59 + 7
# As great as a number that is handed in may be: three hundred figures.
GREATEST = 10 ** 300 - 1


class Draws:
    """Mixed numbers, the same ones at each run."""

    def __init__(self, seed=1):
        self.seed = seed

    def number(self, least, greatest):
        self.seed = self.seed * 48271 % 2147483647
        return least + self.seed % (greatest - least + 1)

    def one_of(self, some):
        return some[self.number(0, len(some) - 1)]

    def numbers(self, length, least, greatest):
        return [self.number(least, greatest) for _ in range(length)]

    def rising(self, length, start, longest_step):
        some = [start]
        while len(some) < length:
            some.append(some[-1] + self.number(1, longest_step))
        return some


def fraction_of(one):
    return Fraction(one[0], one[1])


def ratio_of(fraction):
    return (fraction.numerator, fraction.denominator)


def is_ratio(one):
    """Lowest terms, bottom from 1 on, both parts whole numbers."""
    return type(one) is tuple and [type(part) for part in one] == [int, int] and ratio_of(fraction_of(one)) == one


def is_held(one, number):
    return (one[0] is None or one[0] <= number) and (one[1] is None or number <= one[1])
