"""Point 8: heights, the least of them, and which machines can be kept."""

import random
import unittest
from fractions import Fraction

from keptmisses.errors import NoMachine
from keptmisses.heights import is_heights, kept, least_heights, start
from reckoned import (are_heights, are_least, far, found_states, gain_of, halves, lots, more_allowed, most_stopped, near,
                      all_chancers, small, some_machine, wide)
from samples import (COIN, FOUR, MACHINES, SIX, THREE, TWO, Unchanged, flagged, misshaped, nested, never_right, number,
                     pair, put, relengthened, steps, unnumbered)


def alike(size, *allowances):
    """A machine of one state with these allowances."""
    return (size, (tuple((allowance, 0) for allowance in allowances),))


def moved(heights, place, amount):
    """Heights with one item more by an amount."""
    return put(heights, (place,), pair(number(heights[place]) + amount))


class Least(unittest.TestCase):
    def check(self, machine, heights):
        with Unchanged(self, machine):
            for _ in range(2):
                self.assertEqual(least_heights(machine), heights)
                self.assertIs(kept(machine), heights is not None)
                self.assertEqual(start(machine), None if heights is None else heights[0])

    def check_as_described(self, machine):
        heights = least_heights(machine)
        self.check(machine, heights)
        if heights is not None:
            self.assertIsInstance(heights, tuple)
            self.assertEqual(heights, tuple(pair(number(height)) for height in heights))
            self.assertTrue(are_heights(machine, heights))
            self.assertTrue(are_least(machine, heights))
            self.assertIs(is_heights(machine, heights), True)
        return heights

    def test_one_state_just_enough_and_a_little_less(self):
        for size, enough in ((2, Fraction(1, 2)), (3, Fraction(2, 3)), (4, Fraction(3, 4))):
            self.check(alike(size, *[pair(enough)] * size), ((0, 1),))
            self.check(alike(size, *[pair(enough)] * (size - 1), (1, 1)), ((0, 1),))
            for little in (Fraction(1, 300), Fraction(1, 12), Fraction(1, 2)):
                self.check(alike(size, *[pair(enough - little)] * size), None)
                self.check(alike(size, *[pair(enough)] * (size - 1), pair(enough - little)), None)
            self.check(alike(size, *[(1, 1)] * size), ((0, 1),))
            self.check(alike(size, *[(0, 1)] * size), None)

    def test_one_letter_alone_may_be_too_much(self):
        self.check(alike(2, (-1, 1000), (1000000, 1)), None)
        self.check(alike(2, (0, 1), (1000000, 1)), ((0, 1),))
        self.check(alike(2, (0, 1), (1, 1)), ((0, 1),))
        self.check(alike(2, (0, 1), (999, 1000)), None)
        self.check(alike(3, (0, 1), (1, 1), (1, 1)), ((0, 1),))
        self.check(alike(3, (0, 1), (1, 1), (999, 1000)), None)
        self.check(alike(4, (1, 2), (1, 2), (1000, 1), (1000, 1)), ((0, 1),))
        self.check(alike(4, (1, 2), (499, 1000), (1000, 1), (1000, 1)), None)

    def test_a_loan_that_is_paid_back(self):
        machine = (2, ((((0, 1), 1), ((0, 1), 1)), (((1, 1), 0), ((1, 1), 0))))
        self.check(machine, ((1, 2), (0, 1)))
        self.check((2, ((((1, 1), 1), ((1, 1), 1)), (((0, 1), 0), ((0, 1), 0)))), ((0, 1), (1, 2)))
        self.check((2, ((((0, 1), 1), ((0, 1), 1)), (((999, 1000), 0), ((1, 1), 0)))), None)
        self.check((2, ((((-7, 2), 1), ((-7, 2), 1)), (((9, 2), 0), ((9, 2), 0)))), ((4, 1), (0, 1)))

    def test_a_loan_that_comes_once(self):
        self.check((3, ((((-1, 3), 1), ((-1, 2), 1), ((5, 1), 1)), (((2, 3), 1),) * 3)), (pair(Fraction(11, 12)), (0, 1)))
        self.check((2, ((((-1000000, 1), 1), ((1000000, 1), 1)), (((1, 2), 1), ((1, 2), 1)))), ((1000000, 1), (0, 1)))
        self.check((2, ((((-1000000, 1), 1), ((1000000, 1), 1)), (((1, 2), 1), ((499, 1000), 1)))), None)
        self.check((2, ((((1000000, 1), 1), ((1000000, 1), 1)), (((-1, 1), 2), ((0, 1), 2)), (((3, 4), 2),) * 2)),
                   ((0, 1), (1, 1), (0, 1)))

    def test_a_letter_that_is_drawn_until_the_other_one_comes(self):
        # From state 0 letter 0 leads back and letter 1 to a state that allows enough.
        machine = (2, ((((1, 4), 0), ((1, 2), 1)), (((1, 1), 1), ((1, 1), 1))))
        self.check(machine, ((1, 4), (0, 1)))
        self.assertTrue(are_least(machine, ((1, 4), (0, 1))))
        self.check((2, ((((1, 1000), 0), ((1, 1000), 1)), (((1, 2), 1), ((1, 2), 1)))), (pair(Fraction(499, 500)), (0, 1)))
        self.check((2, ((((0, 1), 0), ((0, 1), 1)), (((1, 2), 1), ((1, 2), 1)))), ((1, 1), (0, 1)))
        self.check((2, ((((-1, 1000), 0), ((0, 1), 1)), (((1, 2), 1), ((1, 2), 1)))), None)

    def test_rings_that_gain_just_nothing(self):
        for size in (2, 3, 4):
            enough = pair(1 - Fraction(1, size))
            for count in (1, 2, 5, 12):
                ring = (size, tuple(((enough, (state + 1) % count),) * size for state in range(count)))
                self.check(ring, ((0, 1),) * count)
                if count > 1:
                    lent = put(ring, (1, 0), ((pair(number(enough) - 1), 1),) * size)
                    self.check(lent, None)
                    back = put(lent, (1, 1), ((pair(number(enough) + 1), 2 % count),) * size)
                    self.check(back, ((1, 1),) + ((0, 1),) * (count - 1) if count == 2
                               else ((1, 1),) + ((0, 1),) + ((1, 1),) * (count - 2))

    def test_states_that_are_not_reached(self):
        needy = (((-5, 1), 1), ((-5, 1), 1))
        lent = (((0, 1), 2), ((0, 1), 2))
        self.check((2, ((((1, 2), 0), ((1, 2), 0)), needy)), ((0, 1), (0, 1)))
        self.check((2, (lent, needy, (((1, 1), 0), ((1, 1), 0)))), ((1, 2), (0, 1), (0, 1)))
        self.check((2, (lent, lent, (((1, 1), 0), ((1, 1), 0)))), ((1, 2), (0, 1), (0, 1)))
        self.check((2, ((((1, 2), 1), ((1, 2), 0)), needy)), None)
        self.check((4, (((((3, 4), 0),) * 4),) + (FOUR[1][1:])), ((0, 1),) * 12)

    def test_the_samples(self):
        self.check(COIN, ((0, 1),))
        self.check(THREE, None)
        self.check(FOUR, None)
        for machine in MACHINES:
            self.check_as_described(machine)
        self.assertIsNone(least_heights(SIX))

    def test_steps_of_each_count(self):
        for size in (2, 3, 4):
            for count in range(1, 13):
                self.check(steps(size, count), ((0, 1),) * count if size == 2 else None)

    def test_small_machines_against_all_ways_to_draw_and_stop(self):
        dice = random.Random(8)
        told = []
        for _ in range(150):
            size, most = dice.choice([(2, 3), (3, 2), (4, 1), (2, 2)])
            count = dice.randint(1, most + 1)
            machine = some_machine(dice, size, count, dice.choice([small, halves, wide, far]))
            if len(found_states(machine)) > most:
                continue
            heights = self.check_as_described(machine)
            told.append(heights is None)
            gains = [gain_of(machine, chancer) for chancer in all_chancers(machine)]
            self.assertEqual(heights is None, max(gains) > 0)
            if heights is not None:
                self.assertEqual(heights, most_stopped(machine))
        self.assertGreater(told.count(True), 20)
        self.assertGreater(told.count(False), 20)

    def test_just_enough_by_the_greatest_gain(self):
        dice = random.Random(88)
        for _ in range(60):
            size, count = dice.choice([(2, 3), (3, 2), (4, 1)])
            machine = some_machine(dice, size, count, halves)
            most = max(gain_of(machine, chancer) for chancer in all_chancers(machine))
            if most.denominator > 300:
                continue
            self.assertIsNotNone(self.check_as_described(more_allowed(machine, most)))
            self.assertIsNotNone(self.check_as_described(more_allowed(machine, most + Fraction(1, most.denominator))))
            self.assertIsNone(least_heights(more_allowed(machine, most - Fraction(1, 2 * most.denominator))))

    def test_fractions_of_many_digits(self):
        dice = random.Random(888)
        digits = 0
        for size in (2, 3, 4):
            for count in (1, 2, 3, 5, 8, 12, 12):
                heights = self.check_as_described(near(dice, size, count, True))
                self.assertIsNotNone(heights)
                digits = max([digits] + [len(str(height[1])) for height in heights])
                machine = near(dice, size, count, False)
                self.assertIsNone(least_heights(machine))
                self.check(machine, None)
        self.assertGreater(digits, 60)

    def test_large_machines(self):
        dice = random.Random(8888)
        told = []
        for _ in range(60):
            size = dice.randint(2, 4)
            machine = some_machine(dice, size, dice.randint(4, 12), dice.choice([small, halves, wide, far]))
            for more in (0, 1, 2):
                if max(abs(number(allowance)) for rule in machine[1] for allowance, _ in rule) < 1000:
                    told.append(self.check_as_described(more_allowed(machine, more)) is None)
            told.append(self.check_as_described(machine) is None)
        self.assertGreater(told.count(True), 20)
        self.assertGreater(told.count(False), 20)

    def test_bounds_of_the_allowances(self):
        poor = tuple(((pair(Fraction(-1000000, 1 + 6 * state)), state + 1), ((-999999, 1000), state + 1))
                     for state in range(11))
        heights = self.check_as_described((2, poor + ((((1, 2), 11), ((1, 2), 11)),)))
        self.assertGreater(number(heights[0]), 1400000)
        self.assertEqual(heights[11], (0, 1))
        self.assertIsNone(self.check_as_described((2, poor + ((((1, 2), 11), ((499, 1000), 11)),))))
        self.assertIsNone(self.check_as_described((2, poor + ((((1000000, 1), 0), ((1000000, 1), 0)),))))
        self.check((4, ((((-1000000, 1), 0),) * 4,)), None)
        self.check((4, ((((1000000, 1), 0),) * 4,)), ((0, 1),))

    def test_no_machine(self):
        wrong = misshaped(TWO) + flagged(TWO) + unnumbered(TWO) + relengthened(TWO, but=[(1,)])
        wrong += [steps(2, 13), steps(2, 2, 2), steps(5, 1), list(COIN), (2, ()), (True, COIN[1])]
        for thing in wrong + never_right():
            for function in (least_heights, kept, start):
                with Unchanged(self, thing), self.assertRaises(NoMachine):
                    function(thing)
            for other in (((0, 1),), None, thing):
                with Unchanged(self, thing), self.assertRaises(NoMachine):
                    is_heights(thing, other)


class IsHeights(unittest.TestCase):
    LOAN = (2, ((((0, 1), 2), ((0, 1), 2)), (((-5, 1), 1), ((0, 1), 0)), (((1, 1), 0), ((1, 1), 0))))

    def check(self, right, machine, thing):
        with Unchanged(self, machine, thing):
            self.assertIs(is_heights(machine, thing), right, repr(thing)[:200])
            self.assertIs(is_heights(machine, thing), right)

    def test_by_hand(self):
        self.check(True, self.LOAN, ((1, 2), (0, 1), (0, 1)))
        self.check(True, self.LOAN, ((3, 2), (0, 1), (1, 1)))
        self.check(True, self.LOAN, ((1, 1), (0, 1), (1, 2)))
        self.check(True, self.LOAN, ((10 ** 28 + 1, 2), (0, 1), (10 ** 28 // 2, 1)))
        self.check(False, self.LOAN, ((1, 1), (0, 1), (2, 3)))
        self.check(False, self.LOAN, ((1, 1), (0, 1), (1, 3)))
        self.check(False, self.LOAN, ((2, 1), (0, 1), (1, 1)))
        self.check(False, self.LOAN, ((499, 1000), (0, 1), (0, 1)))
        self.check(False, self.LOAN, ((1, 2), (1, 2), (0, 1)))
        self.check(False, self.LOAN, ((1, 2), (1, 10 ** 29), (0, 1)))

    def test_below_zero(self):
        rich = (2, ((((5, 1), 1), ((5, 1), 1)), (((5, 1), 0), ((5, 1), 0))))
        self.check(True, rich, ((0, 1), (0, 1)))
        for low in ((-1, 1), (-1, 10 ** 29), (-9, 2)):
            self.check(False, rich, (low, (0, 1)))
            self.check(False, rich, ((0, 1), low))
            self.check(False, rich, (low, low))

    def test_one_letter_alone_counts(self):
        machine = (2, ((((-3, 1), 1), ((100, 1), 1)), (((1, 2), 1), ((1, 2), 1))))
        self.check(True, machine, ((3, 1), (0, 1)))
        self.check(False, machine, ((299, 100), (0, 1)))
        machine = (2, ((((100, 1), 1), ((-3, 1), 1)), (((1, 2), 1), ((1, 2), 1))))
        self.check(True, machine, ((3, 1), (0, 1)))
        self.check(False, machine, ((299, 100), (0, 1)))

    def test_a_machine_that_cannot_be_kept_has_none(self):
        for heights in (((0, 1),), ((1, 1),), ((10 ** 29, 1),), ((10 ** 29 + 1, 10 ** 29),)):
            self.check(False, THREE, heights)
        for height in ((0, 1), (1, 1), (10 ** 29, 7)):
            self.check(False, FOUR, (height,) * 12)
            self.check(False, SIX, (height,) * 3 + ((0, 1),) * 3)

    def test_the_least_ones_raised_and_lowered(self):
        dice = random.Random(80)
        done = 0
        while done < 60:
            size = dice.randint(2, 4)
            machine = (near(dice, size, dice.randint(1, 12), True) if dice.random() < 0.5
                       else some_machine(dice, size, dice.randint(1, 12), dice.choice([small, wide])))
            heights = least_heights(machine)
            if heights is None:
                continue
            done += 1
            found = found_states(machine)
            self.check(True, machine, heights)
            for amount in (Fraction(1), Fraction(1, 10 ** 20), Fraction(10 ** 20, 3)):
                raised = tuple(pair(number(height) + amount) if state in found else height
                               for state, height in enumerate(heights))
                self.check(True, machine, raised)
                for state in found:
                    self.check(False, machine, moved(heights, state, -amount))
                    one = moved(heights, state, amount)
                    self.check(are_heights(machine, one), machine, one)
            for state in range(len(heights)):
                if state not in found:
                    for other in ((1, 1), (1, 1000), (-1, 1), (0, 2), (False, 1), (0, True), [0, 1], None, 0):
                        self.check(False, machine, put(heights, (state,), other))

    def test_as_by_the_words_lot_by_lot(self):
        dice = random.Random(81)
        told = []
        for _ in range(400):
            size = dice.randint(2, 4)
            machine = some_machine(dice, size, dice.randint(1, 3), dice.choice([small, halves]))
            found = found_states(machine)
            heights = tuple(pair(Fraction(dice.randint(0, 8), dice.randint(1, 3))) if state in found else (0, 1)
                            for state in range(len(machine[1])))
            told.append(are_heights(machine, heights))
            self.check(told[-1], machine, heights)
        self.assertGreater(told.count(True), 30)
        self.assertGreater(told.count(False), 30)

    def test_each_lot_is_asked_for(self):
        # Heights that are enough for all lots but one.
        for size in (2, 3, 4):
            for lot in lots(size):
                need = 1 - Fraction(1, len(lot))
                allowances = [pair(need) if letter in lot else (1000, 1) for letter in range(size)]
                machine = (size, (tuple((allowance, 1) for allowance in allowances), (((1, 1), 1),) * size))
                self.check(True, machine, ((0, 1), (0, 1)))
                self.check(False, put(machine, (1, 0, lot[0], 0), pair(need - Fraction(1, 100))), ((0, 1), (0, 1)))

    def test_wrong_things(self):
        for machine in (self.LOAN, COIN, more_allowed(TWO, 1), near(random.Random(82), 4, 12, True)):
            heights = least_heights(machine)
            self.check(True, machine, heights)
            wrong = misshaped(heights) + unnumbered(heights) + flagged(heights) + relengthened(heights)
            wrong += [heights + ((0, 1),), heights[:-1], heights * 2, list(heights), (heights,), machine, machine[1]]
            for place in range(len(heights)):
                for other in ((2, 4), (0, 2), (0, 0), (1, 0), (1, -1), (-1, -2), (3, 3), (True, 1), (1, True), 1, None,
                              (1,), (1, 2, 3), [1, 2], ("1", 2), "12", {1: 2}, nested("tuple", 29), nested("list", 29)):
                    wrong.append(put(heights, (place,), other))
            for thing in wrong:
                self.check(False, machine, thing)
        for thing in never_right() + [2]:
            for machine in MACHINES + [self.LOAN]:
                self.check(False, machine, thing)


if __name__ == "__main__":
    unittest.main()
