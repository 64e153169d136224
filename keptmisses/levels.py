"""Levels: the least cost that chances can hold to, whatever letter comes."""

from itertools import combinations

from keptmisses.errors import NoWorths
from keptmisses.fraction import ONE, ZERO, is_fraction, is_less, minus, reduced, total


def is_worths(thing):
    """Whether a thing is a tuple of 2 to 4 fractions, one for each letter."""
    if not isinstance(thing, tuple) or not 2 <= len(thing) <= 4:
        return False
    return all([is_fraction(worth) for worth in thing])


def all_lots(size):
    """All lots of so many letters: those of fewest letters first, of these the least first."""
    lots = []
    for many in range(1, size + 1):
        for lot in combinations(range(size), many):
            lots.append(lot)
    return lots


def lot_sum(worths, lot):
    """The mean worth of the lot's letters, and 1 - 1 / size of the lot, together."""
    many = len(lot)
    top, bottom = total([worths[letter] for letter in lot])
    return reduced(top + (many - 1) * bottom, many * bottom)


def even_lot(worths):
    """The lot with the greatest sum; of several the one of fewest letters, of these the least."""
    if not is_worths(worths):
        raise NoWorths()
    best = (0,)
    most = lot_sum(worths, best)
    # all_lots tells the lots to be taken first ahead, so an alike sum never replaces the best.
    for lot in all_lots(len(worths)):
        here = lot_sum(worths, lot)
        if is_less(most, here):
            best = lot
            most = here
    return best


def level(worths):
    """The least v such that chances keep each worth + 1 - chance at most v."""
    # The sum of the lots is greatest at the level, so no search for it is needed.
    return lot_sum(worths, even_lot(worths))


def filled(worths):
    """The chances that keep the level: max(0, worth + 1 - level) for each letter."""
    height = level(worths)
    chances = []
    for worth in worths:
        chance = minus(total([worth, ONE]), height)
        chances.append(chance if chance[0] > 0 else ZERO)
    return tuple(chances)
