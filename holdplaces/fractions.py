"""Fractions: tuples (top, bottom) of whole numbers, top from 0 on, bottom from 1 on, in lowest terms."""

from holdplaces.checks import is_pair, is_whole

NOTHING = (0, 1)
ONE = (1, 1)


def is_fraction(thing):
    if not is_pair(thing):
        return False
    top, bottom = thing
    if not is_whole(top) or not is_whole(bottom):
        return False
    return top >= 0 and bottom >= 1 and common_divisor(top, bottom) == 1


def common_divisor(one, other):
    """The greatest number that divides both, one being from 0 on and other from 1 on."""
    while one > 0:
        one, other = other % one, one
    return other


def lowest(top, bottom):
    """The fraction that top by bottom is, top being from 0 on and bottom from 1 on."""
    by = common_divisor(top, bottom)
    return (top // by, bottom // by)


def plus(one, other):
    return lowest(one[0] * other[1] + other[0] * one[1], one[1] * other[1])


def summed(parts):
    result = NOTHING
    for part in parts:
        result = plus(result, part)
    return result


def is_less(one, other):
    return one[0] * other[1] < other[0] * one[1]


def rounded_up(part):
    """The least whole number that is no less."""
    return (part[0] + part[1] - 1) // part[1]
