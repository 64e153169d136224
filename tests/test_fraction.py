"""Point 6: fractions, on which all else is built."""

import unittest
from fractions import Fraction

from keptmisses.fraction import ONE, ZERO, is_fraction, is_less, is_whole, minus, reduced, total
from samples import never_right, number, pair

SOME = [(0, 1), (1, 1), (-1, 1), (1, 2), (-1, 2), (2, 3), (-7, 5), (999999, 1000), (1000000, 1), (10 ** 29 + 1, 10 ** 29)]


class Fractions(unittest.TestCase):
    def test_fractions(self):
        for thing in SOME:
            self.assertIs(is_fraction(thing), True, thing)
        self.assertEqual((ZERO, ONE), ((0, 1), (1, 1)))

    def test_no_fractions(self):
        wrong = [(0, 2), (0, 0), (0, -1), (2, 2), (2, 4), (-2, 4), (1, 0), (1, -2), (-1, -2), (True, 1), (1, True),
                 (False, 1), [1, 2], (1,), (1, 2, 1), (1, "2"), ("1", 2), (None, 1), (1, None), ((1,), 1), (1, [1])]
        for thing in wrong + [one for one in never_right() if one != (0, 1)]:
            self.assertIs(is_fraction(thing), False, str(thing)[:80])

    def test_whole(self):
        for thing in (0, 1, -1, 10 ** 30):
            self.assertIs(is_whole(thing), True)
        for thing in (True, False, None, "1", (1,), [1], {}):
            self.assertIs(is_whole(thing), False)

    def test_sums(self):
        for one in SOME:
            self.assertEqual(total([one]), one)
            for other in SOME:
                self.assertEqual(total([one, other]), pair(number(one) + number(other)))
                self.assertEqual(minus(one, other), pair(number(one) - number(other)))
                self.assertIs(is_less(one, other), number(one) < number(other))
        self.assertEqual(total([]), (0, 1))
        self.assertEqual(total(SOME), pair(sum([number(one) for one in SOME])))

    def test_reduced(self):
        for top in range(-12, 13):
            for bottom in range(1, 13):
                self.assertEqual(reduced(top, bottom), pair(Fraction(top, bottom)))


if __name__ == "__main__":
    unittest.main()
