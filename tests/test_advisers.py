"""Point 15: advisers, and how closely the best of a circle can be followed."""

import random
import unittest
from fractions import Fraction
from itertools import product
from math import comb

from keptmisses.advisers import adviser_misses, followed, is_adviser, is_circle, lag
from keptmisses.errors import MissError, NoCircle, NoNumber, NoRow, TooMany
from keptmisses.machines import is_chances, misses
from reckoned import height_level
from samples import (COIN, Unchanged, flagged, misshaped, nested, never_right, number, pair, put, relengthened, unnumbered)

ZERO_TELLER = (2, ((0, (0, 0)),))
ONE_TELLER = (2, ((1, (0, 0)),))
# It tells the letter that came last; at first 1.
ECHO = (2, ((1, (1, 0)), (0, (1, 0))))
THIRDS = (3, ((0, (1, 2, 2)), (2, (0, 0, 1)), (1, (2, 1, 0))))
LONG = (4, tuple((state % 4, ((state + 1) % 6, 0, 5, state)) for state in range(6)))
TELLERS = {size: [(size, ((letter, (0,) * size),)) for letter in range(size)] for size in (2, 3, 4)}
ADVISERS = [ZERO_TELLER, ONE_TELLER, ECHO, THIRDS, LONG]
CIRCLES = [(ZERO_TELLER,), (ZERO_TELLER, ONE_TELLER), (ECHO, ZERO_TELLER, ECHO), (THIRDS, TELLERS[3][0]), (LONG,) * 4,
           tuple(TELLERS[4])]
# Of how many unlike tuples come up for 1, 2, .. letters, the greatest number that is told is for ten, or for seven.
JUST = ((4, ((1, (0, 0, 1, 0)), (2, (2, 3, 3, 4)), (3, (3, 3, 1, 1)), (0, (3, 0, 2, 2)), (1, (3, 2, 3, 4)))),
        (4, ((1, (1, 0, 2, 1)), (1, (2, 0, 0, 0)), (2, (2, 0, 1, 1)))), (4, ((0, (1, 0, 1, 0)), (0, (1, 1, 0, 1)))))
JUST_PASSED = ((4, ((0, (0, 2, 0, 2)), (1, (3, 3, 1, 0)), (3, (2, 2, 1, 2)), (3, (2, 1, 1, 0)))),
               (4, ((3, (0, 0, 1, 0)), (0, (0, 1, 1, 0)))),
               (4, ((1, (0, 3, 0, 1)), (0, (4, 1, 1, 4)), (0, (2, 4, 2, 2)), (2, (2, 2, 0, 1)), (2, (3, 2, 2, 4)))))
SOONER = ((4, ((1, (0, 4, 3, 4)), (3, (3, 4, 2, 2)), (1, (3, 3, 0, 2)), (2, (3, 3, 2, 2)), (2, (1, 0, 3, 5)),
               (1, (4, 2, 5, 0)))),
          (4, ((0, (3, 1, 1, 2)), (3, (1, 1, 3, 0)), (2, (3, 0, 2, 2)), (1, (2, 2, 1, 2)))),
          (4, ((2, (2, 4, 2, 2)), (1, (3, 0, 0, 4)), (2, (2, 5, 3, 1)), (1, (4, 4, 2, 5)), (0, (1, 3, 0, 5)),
               (1, (1, 2, 5, 3)))))
OF_FOUR = ((3, ((0, (1, 2, 2)), (2, (0, 0, 0)), (1, (2, 1, 2)))), (3, ((2, (2, 0, 2)), (2, (1, 1, 1)), (1, (2, 1, 0)))),
           (3, ((0, (0, 1, 0)), (2, (0, 1, 0)))),
           (3, ((0, (0, 0, 2)), (0, (3, 0, 0)), (2, (3, 3, 0)), (0, (0, 1, 3)))))
COUNTS = [(JUST, [4, 16, 53, 147, 351, 657, 1092, 1630, 2257, 3000]),
          (JUST_PASSED, [4, 14, 48, 135, 307, 594, 1013, 1556, 2215, 3001]),
          (SOONER, [4, 16, 62, 209, 650, 1580, 3001, 4942]),
          (OF_FOUR, [3, 9, 27, 80, 223, 596, 1445, 3000, 5532])]
NO_NUMBERS = [-1, 11, 12, 400, 10 ** 29, -10 ** 29, True, False, None, "", "3", (), (3,), [], [3], {}, {3: 3}, (1, 1),
              nested("tuple", 30), nested("list", 30), nested("dict", 30), MissError()]
NO_ROWS = [None, True, 0, "", "01", [], [0, 1], {}, {0: 1}, (-1,), (4,), (0, 4), (True,), (0, False), (None,), ("0",),
           ((0,),), ([0],), (0,) * 401, (0,) * 400 + (9,), nested("tuple", 30), nested("list", 30), nested("dict", 30)]


def missed_by(adviser, row):
    """How many letters of a row an adviser missed."""
    state = 0
    missed = 0
    for letter in row:
        advice, nexts = adviser[1][state]
        missed += advice != letter
        state = nexts[letter]
    return missed


def best_misses(circle, row):
    return min(missed_by(adviser, row) for adviser in circle)


def worth_of(circle, n, row):
    """What a row's misses must be less than 0 at least, so that all rows of n letters that begin so can be kept."""
    if len(row) == n:
        return Fraction(-best_misses(circle, row))
    return height_level([worth_of(circle, n, row + (letter,)) for letter in range(circle[0][0])])


def unlike_tuples(circle, many):
    """For 1 to so many letters how many unlike tuples of states and differences come up."""
    here = {((0,) * len(circle), (0,) * len(circle))}
    told = []
    for _ in range(many):
        there = set()
        for states, missed in here:
            for letter in range(circle[0][0]):
                more = [count + (adviser[1][state][0] != letter) for adviser, state, count in zip(circle, states, missed)]
                there.add((tuple(adviser[1][state][1][letter] for adviser, state in zip(circle, states)),
                           tuple(count - min(more) for count in more)))
        here = there
        told.append(len(here))
    return told


def some_adviser(dice, size, most):
    count = dice.randint(1, most)
    return (size, tuple((dice.randrange(size), tuple(dice.randrange(count) for _ in range(size))) for _ in range(count)))


def some_circle(dice, size, most=6):
    return tuple(some_adviser(dice, size, most) for _ in range(dice.randint(1, 4)))


def no_advisers():
    """Things that are no adviser."""
    wrong = []
    for adviser in (ECHO, THIRDS):
        wrong += misshaped(adviser) + flagged(adviser) + unnumbered(adviser) + relengthened(adviser, but=[(1,)])
    return wrong + never_right() + [(2, ()), (2, ZERO_TELLER[1] * 7), (1, ((0, (0,)),)), (5, ((0, (0,) * 5),)), COIN,
                                    (2, ((2, (0, 0)),)), (2, ((-1, (0, 0)),)), (2, ((0, (0, 1)),)), (2, ((0, (-1, 0)),)),
                                    (2, ((0, (0, 0, 0)),)), (3, ((0, (0, 0)),)), (ECHO,), MissError()]


def no_circles():
    """Things that are no circle."""
    wrong = [(), (ECHO,) * 5, (ECHO, THIRDS), (THIRDS, THIRDS, LONG), (ECHO, ECHO, ECHO, LONG), [ECHO], ECHO, {0: ECHO},
             ((ECHO,),), (ECHO, None), (None, ECHO), (ECHO, COIN)]
    for place in (0, 1):
        wrong += [put((ECHO, ONE_TELLER), (place,), thing) for thing in no_advisers()]
    return wrong + never_right() + [(thing,) for thing in never_right()[:20]]


class Judged(unittest.TestCase):
    def test_advisers(self):
        for adviser in ADVISERS + [(2, ZERO_TELLER[1] * 6)]:
            with Unchanged(self, adviser):
                self.assertIs(is_adviser(adviser), True)
        dice = random.Random(15)
        for size in (2, 3, 4):
            for _ in range(20):
                self.assertIs(is_adviser(some_adviser(dice, size, 6)), True)
        for thing in no_advisers():
            with Unchanged(self, thing):
                self.assertIs(is_adviser(thing), False, thing)

    def test_states_and_letters_are_bounded(self):
        for size in (2, 3, 4):
            for count in range(1, 9):
                for state in (0, count - 1, count, -1):
                    for letter in (0, size - 1, size, -1):
                        adviser = (size, ((letter, (0,) * (size - 1) + (state,)),) * count)
                        self.assertIs(is_adviser(adviser), count <= 6 and 0 <= state < count and 0 <= letter < size)

    def test_circles(self):
        for circle in CIRCLES + [(ECHO,) * many for many in (1, 2, 3, 4)]:
            with Unchanged(self, circle):
                self.assertIs(is_circle(circle), True)
        for thing in no_circles():
            with Unchanged(self, thing):
                self.assertIs(is_circle(thing), False, thing)


class AdviserMisses(unittest.TestCase):
    def test_by_hand(self):
        self.assertEqual(adviser_misses((ECHO,), ()), (0,))
        self.assertEqual(adviser_misses((ECHO, ZERO_TELLER, ONE_TELLER), ()), (0, 0, 0))
        self.assertEqual(adviser_misses((ECHO, ZERO_TELLER, ONE_TELLER), (0, 0, 0, 1, 1, 0)), (3, 2, 4))
        self.assertEqual(adviser_misses((ECHO, ZERO_TELLER, ONE_TELLER), (1,)), (0, 1, 0))
        self.assertEqual(adviser_misses((THIRDS,), (0, 2, 1, 1)), (2,))
        self.assertEqual(adviser_misses((THIRDS,), (0, 2, 2, 1)), (1,))
        self.assertEqual(adviser_misses(tuple(TELLERS[4]), (3, 0, 3, 1, 3)), (4, 4, 5, 2))
        self.assertEqual(adviser_misses((ECHO,), (0, 1) * 200), (400,))
        self.assertEqual(adviser_misses((ZERO_TELLER,) * 2, (0, 1) * 200), (200, 200))

    def test_as_described(self):
        dice = random.Random(151)
        for _ in range(80):
            circle = some_circle(dice, dice.randint(2, 4))
            row = tuple(dice.randrange(circle[0][0]) for _ in range(dice.choice([1, 2, 9, 400])))
            with Unchanged(self, circle, row):
                told = adviser_misses(circle, row)
            self.assertEqual(told, tuple(missed_by(adviser, row) for adviser in circle))

    def test_wrong(self):
        for thing in no_circles():
            for row in ((), (0,), None):
                with Unchanged(self, thing, row), self.assertRaises(NoCircle):
                    adviser_misses(thing, row)
        for circle in CIRCLES:
            size = circle[0][0]
            for row in NO_ROWS + [(size,), (0, size), (0,) * 399 + (size,)]:
                with Unchanged(self, circle, row), self.assertRaises(NoRow):
                    adviser_misses(circle, row)


class Lag(unittest.TestCase):
    def check(self, circle, n, most):
        with Unchanged(self, circle):
            for _ in range(2):
                self.assertEqual(lag(circle, n), pair(most))

    def test_no_letters(self):
        for circle in CIRCLES + [JUST, JUST_PASSED, SOONER, OF_FOUR]:
            self.check(circle, 0, 0)

    def test_one_adviser_is_followed_altogether(self):
        dice = random.Random(152)
        for adviser in ADVISERS + [some_adviser(dice, 3, 6) for _ in range(10)]:
            for n in (0, 1, 2, 5, 10):
                self.check((adviser,), n, 0)
                self.check((adviser,) * 4, n, 0)

    def test_by_hand(self):
        both = (ZERO_TELLER, ONE_TELLER)
        for n, most in enumerate((0, Fraction(1, 2), Fraction(1, 2), Fraction(3, 4), Fraction(3, 4), Fraction(15, 16))):
            self.check(both, n, most)
        # Drawing evenly is best, so half of the mean of how far apart the two come.
        for n in range(11):
            self.check(both, n, Fraction(sum(comb(n, k) * abs(n - 2 * k) for k in range(n + 1)), 2 ** (n + 1)))
        self.check(both, 10, Fraction(315, 256))
        for size in (2, 3, 4):
            self.check(tuple(TELLERS[size]), 1, 1 - Fraction(1, size))
            self.check(tuple(TELLERS[size][:-1]), 1, 1 - Fraction(1, size - 1))
        # Both tell 1 first, and 1 again where it came: only behind letter 0 are they apart, which itself misses 1.
        self.check((ONE_TELLER, ECHO), 1, 0)
        self.check((ONE_TELLER, ECHO), 2, Fraction(1, 4))

    def test_as_by_all_rows(self):
        dice = random.Random(153)
        for _ in range(60):
            size = dice.randint(2, 4)
            circle = some_circle(dice, size)
            lags = [lag(circle, n) for n in range(6 if size == 2 else 5 if size == 3 else 4)]
            for n, told in enumerate(lags):
                self.assertEqual(told, pair(worth_of(circle, n, ())))

    def test_ten_letters(self):
        dice = random.Random(154)
        for _ in range(3):
            circle = some_circle(dice, 2)
            self.check(circle, 10, worth_of(circle, 10, ()))

    def test_never_below_0_and_falls_nowhere(self):
        dice = random.Random(155)
        for _ in range(25):
            circle = some_circle(dice, dice.randint(2, 4), 3)
            told = []
            for n in range(11):
                try:
                    told.append(number(lag(circle, n)))
                except TooMany:
                    self.assertGreater(max(unlike_tuples(circle, n)), 3000)
                    break
            self.assertEqual(told[0], 0)
            self.assertEqual(told, sorted(told))

    def test_just_3000_tuples_and_more(self):
        for circle, counts in COUNTS:
            self.assertEqual(unlike_tuples(circle, len(counts)), counts)
            before = Fraction(0)
            for n in range(11):
                if n > 0 and max(counts[:n]) > 3000:
                    self.check_too_many(circle, n)
                elif n > 6:
                    told = lag(circle, n)
                    self.assertEqual(told, pair(number(told)))
                    self.assertLessEqual(before, number(told))
                    before = number(told)
        for circle in (JUST, SOONER, OF_FOUR):
            self.check(circle, 3, worth_of(circle, 3, ()))

    def check_too_many(self, circle, n):
        for function in (lambda: lag(circle, n), lambda: followed(circle, n, ()), lambda: followed(circle, n, (0,) * (n - 1))):
            with Unchanged(self, circle), self.assertRaises(TooMany) as caught:
                function()
            self.assertEqual(caught.exception.most, 3000)

    def test_wrong(self):
        for thing in no_circles():
            for n in (0, 3, -1, None):
                with Unchanged(self, thing, n), self.assertRaises(NoCircle):
                    lag(thing, n)
        for circle in CIRCLES + [JUST_PASSED, SOONER]:
            for n in NO_NUMBERS:
                with Unchanged(self, circle, n), self.assertRaises(NoNumber):
                    lag(circle, n)


class Followed(unittest.TestCase):
    def missed(self, circle, n, row):
        """What a row of n letters misses by what is told ahead of each."""
        return misses(row, tuple(followed(circle, n, row[:many]) for many in range(n)))

    def test_by_hand(self):
        both = (ZERO_TELLER, ONE_TELLER)
        for n in range(1, 11):
            self.assertEqual(followed((ONE_TELLER,), n, ()), ((0, 1), (1, 1)))
            self.assertEqual(followed((ECHO,), n, (0,) * (n - 1)), ((0, 1), (1, 1)) if n == 1 else ((1, 1), (0, 1)))
        self.assertEqual(followed(both, 1, ()), ((1, 2), (1, 2)))
        self.assertEqual(followed(both, 2, ()), ((1, 2), (1, 2)))
        self.assertEqual(followed(both, 3, ()), ((1, 2), (1, 2)))
        self.assertEqual(followed(both, 3, (0, 1)), ((1, 2), (1, 2)))
        self.assertEqual(followed(both, 3, (0, 0)), ((1, 1), (0, 1)))
        self.assertEqual(followed(both, 3, (1,)), ((1, 4), (3, 4)))
        self.assertEqual(followed(tuple(TELLERS[3]), 1, ()), ((1, 3),) * 3)

    def test_kept_on_every_row(self):
        dice = random.Random(156)
        for turn in range(40):
            size = dice.randint(2, 4)
            circle = CIRCLES[turn] if turn < len(CIRCLES) else some_circle(dice, size)
            size = circle[0][0]
            n = dice.randint(1, {2: 5, 3: 3, 4: 3}[size])
            told = {}
            for many in range(n):
                for row in product(range(size), repeat=many):
                    with Unchanged(self, circle, row):
                        told[row] = followed(circle, n, row)
                        self.assertEqual(followed(circle, n, row), told[row])
                    self.assertIs(is_chances(size, told[row]), True)
            most = number(lag(circle, n))
            amounts = []
            for row in product(range(size), repeat=n):
                missed = number(misses(row, tuple(told[row[:many]] for many in range(n))))
                amounts.append(missed - best_misses(circle, row))
            self.assertEqual(max(amounts), most)

    def test_kept_on_rows_of_ten_letters(self):
        dice = random.Random(157)
        for circle in [JUST, (ZERO_TELLER, ONE_TELLER), (ECHO, ONE_TELLER, ZERO_TELLER)] + [some_circle(dice, 2)]:
            most = number(lag(circle, 10))
            for _ in range(2):
                row = tuple(dice.randrange(circle[0][0]) for _ in range(10))
                self.assertLessEqual(number(self.missed(circle, 10, row)) - best_misses(circle, row), most)

    def test_wrong(self):
        for thing in no_circles():
            for n, row in ((1, ()), (0, ()), (-1, None)):
                with Unchanged(self, thing, row), self.assertRaises(NoCircle):
                    followed(thing, n, row)
        for circle in CIRCLES + [JUST_PASSED, SOONER]:
            for n in NO_NUMBERS:
                for row in ((), None, (9,)):
                    with Unchanged(self, circle, n, row), self.assertRaises(NoNumber):
                        followed(circle, n, row)
            size = circle[0][0]
            for n in range(11):
                wrong = [(0,) * n, (0,) * (n + 1), (size - 1,) * n, (0,) * 400] + ([(size,), (0, size)] if n > 2 else [])
                for row in wrong + NO_ROWS:
                    with Unchanged(self, circle, row), self.assertRaises(NoRow):
                        followed(circle, n, row)


if __name__ == "__main__":
    unittest.main()
