"""Fractions: pairs (top, bottom) of integers without a common divisor above 1, bottom from 1 on; and equations."""

from math import gcd, lcm

ZERO = (0, 1)
ONE = (1, 1)


def is_whole(thing):
    """Whether a thing is an integer; a flag is none."""
    return isinstance(thing, int) and not isinstance(thing, bool)


def is_fraction(thing):
    """Whether a thing is a fraction."""
    if not isinstance(thing, tuple) or len(thing) != 2:
        return False
    top, bottom = thing
    if not is_whole(top) or not is_whole(bottom):
        return False
    return bottom >= 1 and gcd(top, bottom) == 1


def reduced(top, bottom):
    """The fraction that is top by bottom, a bottom above 0."""
    divisor = gcd(top, bottom)
    return (top // divisor, bottom // divisor)


def total(parts):
    """The sum of fractions."""
    top = 0
    bottom = 1
    # Only the end is reduced: a divisor taken out at each step costs more with long numbers.
    for part_top, part_bottom in parts:
        both = lcm(bottom, part_bottom)
        top = top * (both // bottom) + part_top * (both // part_bottom)
        bottom = both
    return reduced(top, bottom)


def negated(fraction):
    """What makes 0 with a fraction."""
    top, bottom = fraction
    return (-top, bottom)


def minus(one, other):
    """One fraction less the other one."""
    return total([one, negated(other)])


def top_over(fraction, bottom):
    """The top of a fraction over a multiple of its own bottom."""
    return fraction[0] * (bottom // fraction[1])


def common(fractions):
    """The list of the tops of fractions over one bottom, and this bottom."""
    bottom = 1
    for fraction in fractions:
        bottom = lcm(bottom, fraction[1])
    return [top_over(fraction, bottom) for fraction in fractions], bottom


def is_less(one, other):
    """Whether one fraction is below the other one."""
    return one[0] * other[1] < other[0] * one[1]


def solved(rows):
    """The list of the tops of the one solution of equations, and their one bottom, which is above 0.

    A row has an equation's factors and its right side, integers all. Of the factors each square that begins at the
    first one has a determinant above 0.
    """
    rows = list(rows)
    many = len(rows)
    bottom = 1
    for place in range(many):
        chosen = rows[place]
        pivot = chosen[place]
        for other in range(many):
            if other != place:
                factor = rows[other][place]
                # Each item is a determinant then, so the division leaves nothing and the numbers stay short.
                rows[other] = [(pivot * one - factor * part) // bottom for one, part in zip(rows[other], chosen)]
        bottom = pivot
    return [row[-1] for row in rows], bottom
