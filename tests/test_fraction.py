"""Point 6: fractions, on which all else is built; and the equations of points 8 and 9."""

import random
import unittest
from fractions import Fraction

from keptmisses.fraction import (ONE, ZERO, common, is_fraction, is_less, is_whole, minus, negated, reduced, solved,
                                 top_over, total)
from reckoned import solution
from samples import Unchanged, never_right, number, pair

SOME = [(0, 1), (1, 1), (-1, 1), (1, 2), (-1, 2), (2, 3), (-7, 5), (999999, 1000), (1000000, 1), (10 ** 29 + 1, 10 ** 29)]


class Fractions(unittest.TestCase):
    def test_fractions(self):
        for thing in SOME:
            self.assertIs(is_fraction(thing), True, thing)
        self.assertEqual((ZERO, ONE), ((0, 1), (1, 1)))

    def test_no_fractions(self):
        wrong = [(0, 2), (0, 0), (0, -1), (2, 2), (2, 4), (-2, 4), (1, 0), (1, -2), (-1, -2), (True, 1), (1, True),
                 (False, 1), [1, 2], (1,), (1, 2, 1), (1, "2"), ("1", 2), (None, 1), (1, None), ((1,), 1), (1, [1])]
        for thing in wrong + [one for one in never_right() if one != (0, 1)]:
            self.assertIs(is_fraction(thing), False, str(thing)[:80])

    def test_whole(self):
        for thing in (0, 1, -1, 10 ** 30):
            self.assertIs(is_whole(thing), True)
        for thing in (True, False, None, "1", (1,), [1], {}):
            self.assertIs(is_whole(thing), False)

    def test_sums(self):
        for one in SOME:
            self.assertEqual(total([one]), one)
            for other in SOME:
                self.assertEqual(total([one, other]), pair(number(one) + number(other)))
                self.assertEqual(minus(one, other), pair(number(one) - number(other)))
                self.assertIs(is_less(one, other), number(one) < number(other))
        self.assertEqual(total([]), (0, 1))
        self.assertEqual(total(SOME), pair(sum([number(one) for one in SOME])))

    def test_reduced(self):
        for top in range(-12, 13):
            for bottom in range(1, 13):
                self.assertEqual(reduced(top, bottom), pair(Fraction(top, bottom)))

    def test_below_zero(self):
        for one in SOME:
            self.assertEqual(negated(one), pair(-number(one)))

    def test_over_one_bottom(self):
        self.assertEqual(top_over((2, 3), 12), 8)
        self.assertEqual(top_over((-1, 2), 2), -1)
        self.assertEqual(common([(1, 2), (-2, 3), (5, 1)]), ([3, -4, 30], 6))
        self.assertEqual(common([(0, 1)]), ([0], 1))
        self.assertEqual(common([]), ([], 1))
        tops, bottom = common(SOME)
        self.assertEqual([pair(Fraction(top, bottom)) for top in tops], SOME)


class Equations(unittest.TestCase):
    def test_by_hand(self):
        self.assertEqual(solved([]), ([], 1))
        self.assertEqual(solved([[3, 5]]), ([5], 3))
        self.assertEqual(solved([[2, -1, 3], [-1, 2, 0]]), ([6, 3], 3))

    def test_as_draws_give_them(self):
        dice = random.Random(60)
        done = 0
        while done < 60:
            many = dice.randint(1, 12)
            rows = []
            for place in range(many):
                row = [0] * many
                lot = dice.randint(1, 4)
                row[place] = lot
                for _ in range(lot):
                    behind = dice.randrange(many + 1)
                    if behind < many:
                        row[behind] -= 1
                rows.append(row + [dice.randint(-10 ** 30, 10 ** 30)])
            right = solution(rows)
            if right is not None:
                done += 1
                with Unchanged(self, rows):
                    tops, bottom = solved(rows)
                self.assertGreater(bottom, 0)
                self.assertEqual([Fraction(top, bottom) for top in tops], right)


if __name__ == "__main__":
    unittest.main()
