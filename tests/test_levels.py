"""Point 7: levels, the chances that keep them, and the lots that force them."""

import random
import unittest
from fractions import Fraction
from itertools import combinations

from keptmisses.errors import NoWorths
from keptmisses.levels import even_lot, filled, level
from keptmisses.machines import is_chances
from samples import Unchanged, flagged, misshaped, nested, never_right, number, pair, put, relengthened, unnumbered

ALL = (level, filled, even_lot)
LONG = 10 ** 19 + 51


def lots(size):
    """All lots, in the order of tuples."""
    return sorted([lot for many in range(1, size + 1) for lot in combinations(range(size), many)])


def lot_sum(worths, lot):
    """Mean worth and 1 - 1 / size, together."""
    return sum([number(worths[letter]) for letter in lot]) / len(lot) + 1 - Fraction(1, len(lot))


def bisected(worths):
    """Bounds within 2 ** -200 for the least v at which no more than chances are needed."""
    low = min([number(worth) for worth in worths])
    high = max([number(worth) for worth in worths]) + 1
    for _ in range(200 + int(high - low).bit_length()):
        middle = (low + high) / 2
        if sum([max(0, number(worth) + 1 - middle) for worth in worths]) <= 1:
            high = middle
        else:
            low = middle
    return low, high


class Levels(unittest.TestCase):
    def check(self, worths, height, chances, lot):
        with Unchanged(self, worths):
            for _ in range(2):
                self.assertEqual(level(worths), height)
                self.assertEqual(filled(worths), chances)
                self.assertEqual(even_lot(worths), lot)

    def check_as_described(self, worths):
        with Unchanged(self, worths):
            height = level(worths)
            chances = filled(worths)
            lot = even_lot(worths)
        size = len(worths)
        most = max([lot_sum(worths, other) for other in lots(size)])
        self.assertEqual(height, pair(most))
        self.assertTrue(is_chances(size, chances))
        self.assertEqual(chances, tuple(pair(max(Fraction(0), number(worth) + 1 - most)) for worth in worths))
        self.assertEqual(sum([number(chance) for chance in chances]), 1)
        self.assertEqual(lot, min([other for other in lots(size) if lot_sum(worths, other) == most],
                                  key=lambda other: (len(other), other)))

    def test_alike(self):
        for worth in ((0, 1), (1, 2), (-3, 7), (10 ** 6, 1), (-(10 ** 29), 1), (LONG, 10 ** 19)):
            for size in (2, 3, 4):
                self.check((worth,) * size, pair(number(worth) + 1 - Fraction(1, size)), ((1, size),) * size,
                           tuple(range(size)))

    def test_far_apart(self):
        self.check(((5, 1), (0, 1)), (5, 1), ((1, 1), (0, 1)), (0,))
        self.check(((0, 1), (5, 1)), (5, 1), ((0, 1), (1, 1)), (1,))
        self.check(((0, 1), (-7, 1), (9, 2)), (9, 2), ((0, 1), (0, 1), (1, 1)), (2,))
        self.check(((-4, 1), (-2, 1), (-9, 1), (-6, 1)), (-2, 1), ((0, 1), (1, 1), (0, 1), (0, 1)), (1,))
        self.check(((-(10 ** 29), 1), (10 ** 29, 1)), (10 ** 29, 1), ((0, 1), (1, 1)), (1,))

    def test_some_letters_within_the_level(self):
        self.check(((1, 2), (0, 1)), (3, 4), ((3, 4), (1, 4)), (0, 1))
        self.check(((0, 1), (0, 1), (-3, 1)), (1, 2), ((1, 2), (1, 2), (0, 1)), (0, 1))
        self.check(((-3, 1), (0, 1), (0, 1)), (1, 2), ((0, 1), (1, 2), (1, 2)), (1, 2))
        self.check(((1, 3), (-5, 1), (1, 3), (1, 3)), (1, 1), ((1, 3), (0, 1), (1, 3), (1, 3)), (0, 2, 3))
        self.check(((1, 5), (1, 7), (0, 1), (-1, 3)), (82, 105), ((44, 105), (38, 105), (23, 105), (0, 1)), (0, 1, 2))

    def test_of_alike_sums_the_fewest_letters(self):
        self.check(((1, 1), (0, 1)), (1, 1), ((1, 1), (0, 1)), (0,))
        self.check(((0, 1), (1, 1)), (1, 1), ((0, 1), (1, 1)), (1,))
        self.check(((0, 1), (1, 1), (0, 1)), (1, 1), ((0, 1), (1, 1), (0, 1)), (1,))
        self.check(((0, 1), (0, 1), (0, 1), (1, 1)), (1, 1), ((0, 1), (0, 1), (0, 1), (1, 1)), (3,))
        self.check(((-1, 2), (0, 1), (0, 1)), (1, 2), ((0, 1), (1, 2), (1, 2)), (1, 2))
        self.check(((-1, 2), (0, 1), (-1, 2), (0, 1)), (1, 2), ((0, 1), (1, 2), (0, 1), (1, 2)), (1, 3))
        self.check(((1, 3), (0, 1), (1, 3), (1, 3)), (1, 1), ((1, 3), (0, 1), (1, 3), (1, 3)), (0, 2, 3))

    def test_of_letters_alike_but_one(self):
        self.check(((0, 1), (0, 1), (0, 1), (-9, 1)), (2, 3), ((1, 3), (1, 3), (1, 3), (0, 1)), (0, 1, 2))
        self.check(((0, 1), (-9, 1), (0, 1), (0, 1)), (2, 3), ((1, 3), (0, 1), (1, 3), (1, 3)), (0, 2, 3))
        self.check(((-9, 1), (0, 1), (0, 1), (0, 1)), (2, 3), ((0, 1), (1, 3), (1, 3), (1, 3)), (1, 2, 3))

    def test_small_fractions(self):
        tiny = (1, 10 ** 19)
        self.check((tiny, (0, 1)), pair(Fraction(1, 2) + Fraction(1, 2 * 10 ** 19)),
                   (pair(Fraction(1, 2) + Fraction(1, 2 * 10 ** 19)), pair(Fraction(1, 2) - Fraction(1, 2 * 10 ** 19))),
                   (0, 1))
        near = pair(1 - Fraction(1, 10 ** 19))
        self.check((near, (0, 1)), pair(1 - Fraction(1, 2 * 10 ** 19)),
                   (pair(1 - Fraction(1, 2 * 10 ** 19)), pair(Fraction(1, 2 * 10 ** 19))), (0, 1))
        beyond = pair(1 + Fraction(1, 10 ** 19))
        self.check((beyond, (0, 1)), beyond, ((1, 1), (0, 1)), (0,))

    def test_all_small_worths(self):
        some = [(0, 1), (1, 1), (1, 2), (-1, 2), (1, 3), (-2, 3), (-1, 1)]
        for one in some:
            for other in some:
                self.check_as_described((one, other))
                for third in some:
                    self.check_as_described((one, other, third))
                    for fourth in some[:5]:
                        self.check_as_described((one, other, third, fourth))

    def test_worths_of_many_digits(self):
        dice = random.Random(77)
        for _ in range(150):
            size = dice.randint(2, 4)
            bottoms = [dice.randint(10 ** 19, 10 ** 20 - 1) for _ in range(size)]
            self.check_as_described(tuple(pair(Fraction(dice.randint(-2 * bottom, 2 * bottom), bottom)) for bottom in bottoms))
            self.check_as_described(tuple(pair(Fraction(dice.randint(-bottom // 9, bottom // 9), bottom))
                                          for bottom in bottoms))

    def test_what_was_returned_may_be_passed_on(self):
        worths = ((LONG, LONG + 2), (-1, LONG), (1, LONG + 5), (0, 1))
        for _ in range(5):
            worths = tuple(pair(number(chance) * Fraction(LONG, LONG - 1)) for chance in filled(worths))
            self.check_as_described(worths)
        self.check_as_described(((10 ** 400 + 1, 10 ** 400), (1, 2)))

    def test_no_lower_level_does(self):
        dice = random.Random(777)
        for _ in range(40):
            size = dice.randint(2, 4)
            worths = tuple(pair(Fraction(dice.randint(-40, 40), dice.randint(1, 30))) for _ in range(size))
            low, high = bisected(worths)
            self.assertLessEqual(low, number(level(worths)))
            self.assertLessEqual(number(level(worths)), high)

    def test_no_worths(self):
        half = (1, 2)
        wrong = [(), (half,), (half,) * 5, (half,) * 400, [half, half], [half] * 3, {0: half, 1: half}, half, (1, 2, 3),
                 "((1, 2), (1, 2))", (half, None), (None, half), (half, 1), (0, 0), nested("tuple", 30), nested("pair", 30)]
        wrong += [((half, half),), ((half, half), (half, half))]
        for bad in ((2, 4), (0, 2), (0, 0), (1, 0), (1, -1), (-1, -2), (0, -1), (3, 3), (True, 1), (1, True), (False, 1),
                    (True, 2), (1,), (1, 2, 3), (), [1, 2], "12", None, ("1", 2), (1, "2"), ((1, 2), 1), (1, (2,)),
                    nested("tuple", 29), nested("list", 29)):
            for size in (2, 3, 4):
                for place in range(size):
                    wrong.append(put((half,) * size, (place,), bad))
        for right in (((1, 1), (0, 1)), ((-1, 1), (3, 7), (0, 1)), ((1, 1), (2, 1), (-5, 3), (0, 1))):
            wrong += misshaped(right) + unnumbered(right) + flagged(right) + relengthened(right, but=[()])
        for thing in wrong + never_right() + [2]:
            for function in ALL:
                with Unchanged(self, thing), self.assertRaises(NoWorths):
                    function(thing)


if __name__ == "__main__":
    unittest.main()
