"""4.1, what a fraction is, and what the package does with fractions."""

import itertools
import math
import unittest
from fractions import Fraction

from holdplaces.fractions import is_fraction, is_less, lowest, plus, rounded_up, summed
from things import GREAT, NO_WHOLES, same

PARTS = ((0, 1), (1, 1), (1, 2), (2, 3), (3, 2), (5, 1), (7, 8), (GREAT, 1), (1, GREAT), (GREAT, GREAT - 1))


def as_pair(number):
    return (number.numerator, number.denominator)


class IsFraction(unittest.TestCase):
    def test_each_two_small_numbers(self):
        for top, bottom in itertools.product(range(-3, 13), repeat=2):
            due = top >= 0 and bottom >= 1 and math.gcd(top, bottom) == 1
            same(self, is_fraction((top, bottom)), due, (top, bottom))

    def test_nothing_is_0_by_1_alone(self):
        same(self, is_fraction((0, 1)), True)
        for bottom in (-1, 0, 2, 3, 8, GREAT):
            same(self, is_fraction((0, bottom)), False, bottom)

    def test_great_numbers(self):
        for part in PARTS:
            same(self, is_fraction(part), True, part)
        for part in ((GREAT, GREAT), (2, 2 * 10 ** 30), (GREAT, 3), (-GREAT, 1), (1, -GREAT), (10 ** 30, 10)):
            same(self, is_fraction(part), False, part)

    def test_of_anything(self):
        for thing in NO_WHOLES:
            for made in ((thing, 1), (1, thing), (thing, thing), (1, 1, thing), (thing,), [1, thing]):
                same(self, is_fraction(made), False, made)
        for thing in (True, None, 1, "1/2", [1, 2], {1: 2}, (), (1,), (1, 2, 3), ((1, 2),), ("1", "2"), (1, True)):
            same(self, is_fraction(thing), False, thing)


class Reckoning(unittest.TestCase):
    def test_lowest(self):
        for top, bottom in itertools.product(range(0, 25), range(1, 25)):
            same(self, lowest(top, bottom), as_pair(Fraction(top, bottom)))
        same(self, lowest(GREAT, GREAT), (1, 1))

    def test_two_parts(self):
        for one, other in itertools.product(PARTS, repeat=2):
            same(self, plus(one, other), as_pair(Fraction(*one) + Fraction(*other)))
            same(self, is_less(one, other), Fraction(*one) < Fraction(*other))

    def test_summed(self):
        same(self, summed([]), (0, 1))
        same(self, summed(PARTS), as_pair(sum(Fraction(*part) for part in PARTS)))
        same(self, summed([(1, 2), (1, 3), (1, 6)]), (1, 1))

    def test_rounded_up(self):
        for part in PARTS:
            same(self, rounded_up(part), math.ceil(Fraction(*part)), part)
        for top in range(20):
            same(self, rounded_up(lowest(top, 6)), (top + 5) // 6, top)


if __name__ == "__main__":
    unittest.main()
