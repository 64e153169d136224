"""Levels: the least cost that chances can hold to, whatever letter comes."""

from keptmisses.errors import NoWorths
from keptmisses.fraction import ONE, ZERO, common, is_fraction, minus, reduced, total

# Each size of a lot is a divisor of it, so with it in the bottom of worths their level has an integer for its top.
SIZES_MULTIPLE = 12


def is_worths(thing):
    """Whether a thing is a tuple of 2 to 4 fractions, one for each letter."""
    if not isinstance(thing, tuple) or not 2 <= len(thing) <= 4:
        return False
    return all([is_fraction(worth) for worth in thing])


def best_lot(tops, bottom):
    """The even lot of worths that are told by their tops over one bottom, and the top of the lot's sum.

    The sum, too, is over this bottom, but times the lot's size.
    """
    lot = []
    most = -bottom
    for drop, letter in sorted([(-top, letter) for letter, top in enumerate(tops)]):
        more = bottom - drop
        # A letter whose worth and 1 are no more than the sum so far doesn't raise it, nor do those of lesser worth.
        if lot and more * len(lot) <= most:
            break
        lot.append(letter)
        most = most + more
    return tuple(sorted(lot)), most


def even_lot(worths):
    """The lot with the greatest sum; of several the one of fewest letters, of these the least."""
    if not is_worths(worths):
        raise NoWorths()
    tops, bottom = common(worths)
    return best_lot(tops, bottom)[0]


def level(worths):
    """The least v such that chances keep each worth + 1 - chance at most v."""
    if not is_worths(worths):
        raise NoWorths()
    tops, bottom = common(worths)
    # The sum of the lots is greatest at the level, so no search for it is needed.
    lot, most = best_lot(tops, bottom)
    return reduced(most, len(lot) * bottom)


def filled(worths):
    """The chances that keep the level: max(0, worth + 1 - level) for each letter."""
    height = level(worths)
    chances = []
    for worth in worths:
        chance = minus(total([worth, ONE]), height)
        chances.append(chance if chance[0] > 0 else ZERO)
    return tuple(chances)
