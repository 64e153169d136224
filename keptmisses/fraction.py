"""Fractions: pairs (top, bottom) of integers without a common divisor above 1, bottom from 1 on."""

from math import gcd, lcm

ZERO = (0, 1)
ONE = (1, 1)


def is_whole(thing):
    """Whether a thing is an integer; a flag is none."""
    return isinstance(thing, int) and not isinstance(thing, bool)


def is_fraction(thing):
    """Whether a thing is a fraction."""
    if not isinstance(thing, tuple) or len(thing) != 2:
        return False
    top, bottom = thing
    if not is_whole(top) or not is_whole(bottom):
        return False
    return bottom >= 1 and gcd(top, bottom) == 1


def reduced(top, bottom):
    """The fraction that is top by bottom, a bottom above 0."""
    divisor = gcd(top, bottom)
    return (top // divisor, bottom // divisor)


def total(parts):
    """The sum of fractions."""
    top = 0
    bottom = 1
    # Only the end is reduced: a divisor taken out at each step costs more with long numbers.
    for part_top, part_bottom in parts:
        common = lcm(bottom, part_bottom)
        top = top * (common // bottom) + part_top * (common // part_bottom)
        bottom = common
    return reduced(top, bottom)


def minus(one, other):
    """One fraction less the other one."""
    top, bottom = other
    return total([one, (-top, bottom)])


def is_less(one, other):
    """Whether one fraction is below the other one."""
    return one[0] * other[1] < other[0] * one[1]
