"""Point 6: what machines do with rows, and what rows miss."""

import random
import unittest
from fractions import Fraction

from keptmisses.errors import NoChances, NoMachine, NoRow
from keptmisses.machines import allowed, misses, state_after
from samples import (CHANCES, COIN, FOUR, MACHINES, SIX, THREE, TWO, Unchanged, flagged, misshaped, nested,
                     never_right, number, pair, put, relengthened, steps, unnumbered)

BOTH = (state_after, allowed)
NO_ROWS = [None, True, 0, "", "01", [], [0, 1], {}, {0: 1}, (-1,), (4,), (0, 4), (True,), (0, False), (None,), ("0",),
           ((0,),), ([0],), (0,) * 401, (0,) * 400 + (9,), nested("tuple", 30), nested("list", 30), nested("dict", 30)]


class Reading(unittest.TestCase):
    def check(self, machine, row, state, allowance):
        with Unchanged(self, machine, row):
            for _ in range(2):
                self.assertEqual(state_after(machine, row), state)
                self.assertEqual(allowed(machine, row), allowance)

    def test_the_empty_row(self):
        for machine in MACHINES:
            self.check(machine, (), 0, (0, 1))

    def test_short_rows(self):
        self.check(COIN, (0,), 0, (1, 2))
        self.check(COIN, (0, 1), 0, (1, 1))
        self.check(COIN, (1, 1, 0), 0, (3, 2))
        self.check(TWO, (0,), 1, (1, 3))
        self.check(TWO, (1,), 0, (0, 1))
        self.check(TWO, (0, 0), 0, (-8, 21))
        self.check(TWO, (0, 1), 1, (4, 3))
        self.check(TWO, (0, 1, 0, 1), 0, (13, 21))
        self.check(THREE, (2,), 0, (1, 1000))
        self.check(THREE, (0, 1), 0, (0, 1))
        self.check(THREE, (1, 2), 0, (-999999999, 1000))
        self.check(SIX, (0, 2, 0), 2, (11, 5))
        self.check(SIX, (2, 0, 1), 2, (5, 3))

    def test_all_states_of_a_great_machine(self):
        for many in range(12):
            self.check(FOUR, (0,) * many, many, pair(Fraction(many, 2)))
        self.check(FOUR, (0,) * 12, 0, (6, 1))
        self.check(FOUR, (2,), 11, (0, 1))
        self.check(FOUR, (0, 3, 3, 2, 0), 0, pair(1 + 2 * Fraction(999999, 1000)))

    def test_the_sum_is_reduced(self):
        machine = (3, ((((1, 6), 0), ((1, 3), 0), ((-1, 2), 0)),))
        self.check(machine, (0, 1), 0, (1, 2))
        self.check(machine, (0, 1, 2), 0, (0, 1))
        self.check(machine, (0, 0), 0, (1, 3))
        self.check(machine, (0,) * 6, 0, (1, 1))
        self.check(machine, (2,) * 400, 0, (-200, 1))
        self.check(machine, (0,) * 400, 0, (200, 3))
        self.check(machine, (1,) * 399, 0, (133, 1))
        self.check(machine, (2, 2), 0, (-1, 1))
        self.check(machine, (2, 1), 0, (-1, 6))

    def test_as_by_reading_letter_by_letter(self):
        dice = random.Random(66)
        for many in [0, 1, 2, 3, 5, 8, 30, 399, 400] * 6:
            size = dice.randint(2, 4)
            count = dice.randint(1, 12)
            machine = (size, tuple(tuple((pair(Fraction(dice.randint(-1000, 1000), dice.randint(1, 1000))),
                                          dice.randrange(count)) for _ in range(size)) for _ in range(count)))
            row = tuple(dice.randrange(size) for _ in range(many))
            state = 0
            allowance = Fraction(0)
            for letter in row:
                allowance += number(machine[1][state][letter][0])
                state = machine[1][state][letter][1]
            self.check(machine, row, state, pair(allowance))

    def test_no_machine(self):
        wrong = misshaped(TWO) + flagged(TWO) + unnumbered(TWO) + relengthened(TWO, but=[(1,)])
        for thing in wrong + never_right() + [steps(2, 13), steps(2, 2, 2), steps(5, 1), (1, ((((1, 2), 0),),)), (2, ())]:
            for function in BOTH:
                for row in [(), (0,)] + NO_ROWS[:8]:
                    with Unchanged(self, thing, row), self.assertRaises(NoMachine):
                        function(thing, row)

    def test_no_row(self):
        for machine in MACHINES:
            size = machine[0]
            for thing in NO_ROWS + [(size,), (0, size), (0,) * 399 + (size,), (size - 1,) * 401]:
                for function in BOTH:
                    with Unchanged(self, machine, thing), self.assertRaises(NoRow):
                        function(machine, thing)

    def test_letters_of_the_own_size_are_read(self):
        for machine in MACHINES:
            for letter in range(machine[0]):
                self.check(machine, (letter,), machine[1][0][letter][1], machine[1][0][letter][0])


class Misses(unittest.TestCase):
    def check(self, row, told, missed):
        with Unchanged(self, row, told):
            for _ in range(2):
                self.assertEqual(misses(row, told), missed)

    def test_the_empty_row(self):
        self.check((), (), (0, 1))

    def test_sure_chances(self):
        sure = ((1, 1), (0, 1))
        self.check((0,), (sure,), (0, 1))
        self.check((1,), (sure,), (1, 1))
        self.check((0, 1, 1), (sure,) * 3, (2, 1))
        self.check((2, 3), (((0, 1), (0, 1), (1, 1), (0, 1)),) * 2, (1, 1))

    def test_even_chances(self):
        for size in (2, 3, 4):
            even = ((1, size),) * size
            for letter in range(size):
                self.check((letter,), (even,), (size - 1, size))
                self.check((letter,) * size, (even,) * size, (size - 1, 1))
                self.check((letter,) * 400, (even,) * 400, pair(400 - Fraction(400, size)))

    def test_each_letter_by_its_own_chances(self):
        told = (((1, 2), (1, 3), (1, 6)), ((1, 5), (4, 5), (0, 1)), ((0, 1), (1, 4), (3, 4)))
        self.check((0, 0, 0), told, pair(Fraction(1, 2) + Fraction(4, 5) + 1))
        self.check((1, 1, 1), told, pair(Fraction(2, 3) + Fraction(1, 5) + Fraction(3, 4)))
        self.check((2, 1, 0), told, pair(Fraction(5, 6) + Fraction(1, 5) + 1))
        self.check((0, 1, 2), told, pair(Fraction(1, 2) + Fraction(1, 5) + Fraction(1, 4)))

    def test_sizes_above_each_letter(self):
        for size, many in CHANCES.items():
            for chances in many:
                for letter in range(size):
                    self.check((letter,), (chances,), pair(1 - number(chances[letter])))
                    self.check((letter, 0), (chances, chances), pair(2 - number(chances[letter]) - number(chances[0])))

    def test_long_rows(self):
        dice = random.Random(7)
        for many in (1, 2, 3, 10, 399, 400):
            for size in (2, 3, 4):
                told = []
                for _ in range(many):
                    weights = [dice.randint(0, 9) for _ in range(size - 1)] + [dice.randint(1, 9)]
                    told.append(tuple(pair(Fraction(weight, sum(weights))) for weight in weights))
                row = tuple(dice.randrange(size) for _ in range(many))
                missed = sum([1 - number(told[place][letter]) for place, letter in enumerate(row)])
                self.check(row, tuple(told), pair(missed))

    def test_long_rows_of_unlike_long_bottoms(self):
        told = tuple(((1, 10 ** 29 - place), (10 ** 29 - place - 1, 10 ** 29 - place)) for place in range(400))
        missed = 400 - sum([Fraction(1, 10 ** 29 - place) for place in range(400)])
        self.check((0,) * 400, told, pair(missed))
        self.check((1,) * 400, told, pair(400 - missed))

    def test_no_row_ahead_of_no_chances(self):
        for thing in NO_ROWS:
            for told in ((), (CHANCES[2][0],), (CHANCES[4][0],) * 2, (CHANCES[2][0],) * 401, None, [], nested("tuple", 30)):
                with Unchanged(self, thing, told), self.assertRaises(NoRow):
                    misses(thing, told)

    def test_too_few_or_too_many(self):
        even = CHANCES[4][0]
        for many in (0, 1, 2, 399, 400):
            for other in (0, 1, 2, 3, 398, 399, 400, 401):
                if other != many:
                    with self.assertRaises(NoChances):
                        misses((0,) * many, (even,) * other)

    def test_unlike_sizes(self):
        two, three, four = [CHANCES[size][0] for size in (2, 3, 4)]
        for told in ((two, three), (three, two), (two, four), (four, three), (two, two, three), (three, four, three),
                     (two, three, four), (four, four, two), (two,) * 399 + (three,)):
            with self.assertRaises(NoChances):
                misses((0,) * len(told), told)

    def test_sizes_that_are_not_above_each_letter(self):
        two, three, four = [CHANCES[size][0] for size in (2, 3, 4)]
        for row, told in (((2,), (two,)), ((3,), (two,)), ((3,), (three,)), ((0, 2), (two, two)), ((2, 0), (two, two)),
                          ((0, 1, 2, 3), (three,) * 4), ((3,) + (0,) * 399, (three,) * 400),
                          ((0,) * 399 + (2,), (two,) * 400)):
            with Unchanged(self, row, told), self.assertRaises(NoChances):
                misses(row, told)
        self.check((2,), (three,), (5, 6))
        self.check((3,), (four,), (3, 4))

    def test_told_things_that_are_no_chances(self):
        right = (((1, 2), (1, 3), (1, 6)), ((1, 5), (3, 5), (1, 5)))
        self.check((0, 1), right, (9, 10))
        for told in misshaped(right) + unnumbered(right) + flagged(right) + relengthened(right):
            with Unchanged(self, told), self.assertRaises(NoChances):
                misses((0, 1), told)
        for chances in (((1, 2), (1, 3), (1, 5)), ((2, 4), (1, 3), (1, 6)), ((1, 1), (1, 1), (-1, 1)),
                        ((1, 2), (1, 2), (0, 2)), ((1, 0), (0, 1), (0, 1))):
            for place in (0, 1):
                with self.assertRaises(NoChances):
                    misses((0, 1), put(right, (place,), chances))
        for told in never_right():
            if told != ():
                with Unchanged(self, told), self.assertRaises(NoChances):
                    misses((), told)
            with Unchanged(self, told), self.assertRaises(NoChances):
                misses((0,), told)
        for told in ([], None, {}, "", 0, False):
            with self.assertRaises(NoChances):
                misses((), told)


if __name__ == "__main__":
    unittest.main()
