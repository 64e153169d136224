"""Point 10: the guesser of a machine that can be kept, and the main sentence's other half."""

import random
import unittest
from fractions import Fraction

from keptmisses.errors import NoLetter, NoMachine, NoRow, NoState, NothingRead, NotKept
from keptmisses.guessers import Guesser, all_guesses, chances_at, guess
from keptmisses.heights import least_heights
from keptmisses.levels import filled
from keptmisses.machines import allowed, is_chances, misses, state_after
from reckoned import far, found_states, halves, height_level, near, small, some_machine, wide
from samples import (COIN, FOUR, SIX, THREE, TWO, Unchanged, flagged, misshaped, nested, never_right, number, pair, put,
                     relengthened, steps, unnumbered)

# Of its states 1 is not reached; state 0 lends 1/2, which state 2 pays back for letter 1 alone.
LOAN = (2, ((((0, 1), 2), ((0, 1), 2)), (((-5, 1), 1), ((0, 1), 0)), (((1, 2), 2), ((1, 1), 0))))
FIRM = (3, ((((2, 3), 0), ((2, 3), 1), ((2, 3), 0)), (((1, 1), 1), ((1, 1), 0), ((0, 1), 0))))
NO_STATES = [-1, 12, 13, 10 ** 29, -10 ** 29, True, False, None, "0", "", (), (0,), [0], [], {}, {0: 0}, nested("tuple", 30),
             nested("list", 30), nested("dict", 30)]
NO_ROWS = [None, True, 0, "", "01", [], [0, 1], {}, {0: 1}, (-1,), (4,), (0, 4), (True,), (0, False), (None,), ("0",),
           ((0,),), ([0],), (0,) * 401, (0,) * 400 + (9,), nested("tuple", 30), nested("list", 30), nested("dict", 30)]
NOT_KEPT = [THREE, FOUR, SIX, put(COIN, (1, 0, 0, 0), (499, 1000))]


def kept_machines(dice, many):
    """Machines of all sizes that can be kept, with 1 to 12 states."""
    told = [COIN, LOAN, FIRM]
    while len(told) < many:
        size = dice.randint(2, 4)
        count = dice.randint(1, 12)
        machine = (near(dice, size, count, True) if dice.random() < 0.5
                   else some_machine(dice, size, count, dice.choice([small, halves, wide, far])))
        if least_heights(machine) is not None:
            told.append(machine)
    return told


def told_at(machine, state):
    """The chances at a state, reckoned by the words of the point from the least heights."""
    heights = least_heights(machine)
    worths = [number(heights[behind]) - number(allowance) for allowance, behind in machine[1][state]]
    height = height_level(worths)
    return tuple(pair(max(Fraction(0), worth + 1 - height)) for worth in worths)


def no_machines():
    """Things that are no machine."""
    wrong = misshaped(TWO) + flagged(TWO) + unnumbered(TWO) + relengthened(TWO, but=[(1,)])
    return wrong + never_right() + [steps(2, 13), steps(2, 2, 2), steps(5, 1), list(COIN), (2, ())]


class Functions(unittest.TestCase):
    def test_by_hand(self):
        even = ((1, 2), (1, 2))
        self.assertEqual(chances_at(COIN, 0), even)
        self.assertEqual(guess(COIN, (0, 1, 1)), even)
        self.assertEqual(all_guesses(COIN, (0, 1, 1)), (even,) * 3)
        self.assertEqual(least_heights(LOAN), ((1, 2), (0, 1), (0, 1)))
        self.assertEqual(chances_at(LOAN, 0), even)
        self.assertEqual(chances_at(LOAN, 2), even)
        self.assertEqual(chances_at((2, ((((0, 1), 0), ((1, 1), 0)),)), 0), ((1, 1), (0, 1)))
        self.assertEqual(chances_at((2, ((((1, 4), 0), ((3, 4), 0)),)), 0), ((3, 4), (1, 4)))
        self.assertEqual(chances_at((3, ((((1, 4), 0), ((3, 4), 0), ((1, 1), 0)),)), 0), ((3, 4), (1, 4), (0, 1)))
        self.assertEqual(chances_at((2, ((((5, 1), 0), ((5, 1), 0)),)), 0), even)

    def test_chances_at_each_reached_state(self):
        for machine in kept_machines(random.Random(10), 80):
            heights = least_heights(machine)
            for state in found_states(machine):
                with Unchanged(self, machine):
                    chances = chances_at(machine, state)
                    self.assertEqual(chances_at(machine, state), chances)
                self.assertEqual(chances, told_at(machine, state))
                worths = tuple(pair(number(heights[behind]) - number(allowance))
                               for allowance, behind in machine[1][state])
                self.assertEqual(chances, filled(worths))
                self.assertTrue(is_chances(machine[0], chances))

    def test_rows(self):
        dice = random.Random(101)
        for machine in kept_machines(dice, 40):
            for many in (0, 1, 2, 7, dice.choice([30, 399, 400])):
                row = tuple(dice.randrange(machine[0]) for _ in range(many))
                with Unchanged(self, machine, row):
                    told = all_guesses(machine, row)
                    self.assertEqual(guess(machine, row), told_at(machine, state_after(machine, row)))
                self.assertIsInstance(told, tuple)
                self.assertEqual(told, all_guesses(machine, row))
                self.assertEqual(len(told), many)
                by_state = {state: told_at(machine, state) for state in found_states(machine)}
                state = 0
                for letter, chances in zip(row, told):
                    self.assertEqual(chances, by_state[state])
                    state = machine[1][state][letter][1]

    def test_a_promise_that_is_kept_for_each_row(self):
        dice = random.Random(102)
        for machine in kept_machines(dice, 40):
            heights = least_heights(machine)
            row = tuple(dice.randrange(machine[0]) for _ in range(dice.choice([1, 5, 400])))
            spare = number(heights[0]) + number(allowed(machine, row)) - number(misses(row, all_guesses(machine, row)))
            self.assertGreaterEqual(spare, number(heights[state_after(machine, row)]))

    def test_no_machine(self):
        for thing in no_machines():
            for other in (0, -1, None, (), (0,), NO_ROWS[-1]):
                for function in (chances_at, guess, all_guesses):
                    with Unchanged(self, thing, other), self.assertRaises(NoMachine):
                        function(thing, other)
            with Unchanged(self, thing), self.assertRaises(NoMachine):
                Guesser(thing)

    def test_no_state(self):
        for machine in kept_machines(random.Random(103), 12) + NOT_KEPT:
            count = len(machine[1])
            wrong = NO_STATES + [count, -count] + [state for state in range(count) if state not in found_states(machine)]
            for thing in wrong:
                with Unchanged(self, machine, thing), self.assertRaises(NoState):
                    chances_at(machine, thing)
        for state in (1,):
            with self.assertRaises(NoState):
                chances_at(LOAN, state)
        for state in (3, 4, 5):
            with self.assertRaises(NoState):
                chances_at(SIX, state)

    def test_no_row(self):
        for machine in [COIN, LOAN, FIRM] + NOT_KEPT:
            for thing in NO_ROWS + [(machine[0],), (0, machine[0]), (0,) * 399 + (machine[0],)]:
                for function in (guess, all_guesses):
                    with Unchanged(self, machine, thing), self.assertRaises(NoRow):
                        function(machine, thing)

    def test_not_kept(self):
        for machine in NOT_KEPT:
            for state in found_states(machine):
                with self.assertRaises(NotKept):
                    chances_at(machine, state)
            for row in ((), (0,), (1,) * 400):
                for function in (guess, all_guesses):
                    with self.assertRaises(NotKept):
                        function(machine, row)
            with Unchanged(self, machine), self.assertRaises(NotKept):
                Guesser(machine)


class Reading(unittest.TestCase):
    def seen(self, guesser):
        return (guesser.chances(), guesser.misses(), guesser.spare(), guesser.row(), guesser.state())

    def check(self, guesser, machine, row):
        """A guesser stands as is told by the other functions, behind a row of at most 400 letters."""
        missed = misses(row, all_guesses(machine, row))
        spare = pair(number(least_heights(machine)[0]) + number(allowed(machine, row)) - number(missed))
        for _ in range(2):
            self.assertEqual(self.seen(guesser),
                             (guess(machine, row), missed, spare, row, state_after(machine, row)))

    def test_nothing_read(self):
        for machine in kept_machines(random.Random(104), 30):
            with Unchanged(self, machine):
                guesser = Guesser(machine)
                self.check(guesser, machine, ())
                self.assertEqual(self.seen(guesser), (chances_at(machine, 0), (0, 1), least_heights(machine)[0], (), 0))

    def test_by_hand(self):
        guesser = Guesser(LOAN)
        self.assertEqual(self.seen(guesser), (((1, 2), (1, 2)), (0, 1), (1, 2), (), 0))
        self.assertEqual(guesser.read(0), (1, 2))
        self.assertEqual(self.seen(guesser), (((1, 2), (1, 2)), (1, 2), (0, 1), (0,), 2))
        self.assertEqual(guesser.read(0), (1, 2))
        self.assertEqual(self.seen(guesser), (((1, 2), (1, 2)), (1, 1), (0, 1), (0, 0), 2))
        self.assertEqual(guesser.read(1), (1, 2))
        self.assertEqual(self.seen(guesser), (((1, 2), (1, 2)), (3, 2), (1, 2), (0, 0, 1), 0))
        self.assertIsNone(guesser.back())
        self.assertEqual(self.seen(guesser), (((1, 2), (1, 2)), (1, 1), (0, 1), (0, 0), 2))
        sure = Guesser((2, ((((0, 1), 0), ((1, 1), 0)),)))
        self.assertEqual((sure.read(0), sure.misses(), sure.spare()), ((0, 1), (0, 1), (0, 1)))
        self.assertEqual((sure.read(1), sure.misses(), sure.spare()), ((1, 1), (1, 1), (0, 1)))

    def test_letter_by_letter(self):
        dice = random.Random(105)
        for machine in kept_machines(dice, 40):
            guesser = Guesser(machine)
            heights = least_heights(machine)
            row = ()
            for _ in range(25):
                letter = dice.randrange(machine[0])
                missed = 1 - number(guesser.chances()[letter])
                self.assertEqual(guesser.read(letter), pair(missed))
                row += (letter,)
                self.check(guesser, machine, row)
                self.assertGreaterEqual(number(guesser.spare()), number(heights[guesser.state()]))

    def test_taken_back(self):
        dice = random.Random(106)
        for machine in kept_machines(dice, 25):
            guesser = Guesser(machine)
            seen = [self.seen(guesser)]
            for _ in range(60):
                if len(seen) > 1 and dice.random() < 0.4:
                    self.assertIsNone(guesser.back())
                    seen.pop()
                else:
                    guesser.read(dice.randrange(machine[0]))
                    seen.append(self.seen(guesser))
                self.assertEqual(self.seen(guesser), seen[-1])
                self.check(guesser, machine, guesser.row())
            while len(seen) > 1:
                guesser.back()
                seen.pop()
                self.assertEqual(self.seen(guesser), seen[-1])
            with self.assertRaises(NothingRead):
                guesser.back()
            self.assertEqual(self.seen(guesser), seen[0])

    def test_more_than_400_letters(self):
        dice = random.Random(107)
        for machine in [LOAN, FIRM] + [near(dice, size, 12, True) for size in (2, 3, 4)]:
            guesser = Guesser(machine)
            heights = least_heights(machine)
            missed = Fraction(0)
            spare = number(heights[0])
            state = 0
            seen = []
            for place in range(1500):
                seen.append((guesser.chances(), guesser.misses(), guesser.spare(), guesser.state()))
                # The letter that leaves the least spare, over what the state behind it needs.
                letter = min(range(machine[0]), key=lambda x: number(machine[1][state][x][0]) +
                             number(guesser.chances()[x]) - number(heights[machine[1][state][x][1]]))
                letter = dice.randrange(machine[0]) if place % 3 == 0 else letter
                chance = number(guesser.chances()[letter])
                allowance, state = machine[1][state][letter]
                missed += 1 - chance
                spare += number(allowance) - 1 + chance
                self.assertEqual(guesser.read(letter), pair(1 - chance))
                self.assertEqual((guesser.misses(), guesser.spare(), guesser.state()), (pair(missed), pair(spare), state))
                self.assertGreaterEqual(spare, number(heights[state]))
            self.assertEqual(len(guesser.row()), 1500)
            self.assertEqual(all_guesses(machine, guesser.row()[:400]), tuple([chances for chances, _, _, _ in seen[:400]]))
            twin = guesser.copy()
            for ahead in reversed(seen):
                guesser.back()
                self.assertEqual((guesser.chances(), guesser.misses(), guesser.spare(), guesser.state()), ahead)
            self.assertEqual((guesser.row(), len(twin.row())), ((), 1500))

    def test_copies_go_on_by_themselves(self):
        dice = random.Random(108)
        for machine in kept_machines(dice, 25):
            one = Guesser(machine)
            for _ in range(dice.randint(0, 10)):
                one.read(dice.randrange(machine[0]))
            row = one.row()
            other = one.copy()
            self.assertIsInstance(other, Guesser)
            self.assertIsNot(other, one)
            self.assertEqual(self.seen(other), self.seen(one))
            self.check(other, machine, row)
            one.read(0)
            self.check(other, machine, row)
            other.read(1)
            other.read(0)
            self.check(one, machine, row + (0,))
            self.check(other, machine, row + (1, 0))
            for _ in range(len(row) + 1):
                one.back()
            self.check(one, machine, ())
            self.check(other, machine, row + (1, 0))
            third = other.copy().copy()
            for _ in range(len(row) + 2):
                third.back()
            with self.assertRaises(NothingRead):
                third.back()
            self.check(third, machine, ())
            self.check(other, machine, row + (1, 0))

    def test_two_guessers_share_nothing(self):
        one = Guesser(FIRM)
        other = Guesser(FIRM)
        one.read(1)
        self.check(other, FIRM, ())
        other.read(2)
        self.check(one, FIRM, (1,))

    def test_no_letter_changes_nothing(self):
        for machine in (COIN, LOAN, FIRM, near(random.Random(109), 4, 5, True)):
            size = machine[0]
            guesser = Guesser(machine)
            for row in ((), (0,), (0, 1)):
                if row:
                    guesser.read(row[-1])
                seen = self.seen(guesser)
                for thing in [size, size + 1, -1, -size, 10 ** 29, True, False, None, "0", "", (), (0,), [0], {}, {0: 0},
                              nested("tuple", 30), nested("list", 30), nested("dict", 30), guesser]:
                    with self.assertRaises(NoLetter):
                        guesser.read(thing)
                    self.assertEqual(self.seen(guesser), seen)
                self.check(guesser, machine, row)

    def test_nothing_to_take_back_changes_nothing(self):
        guesser = Guesser(FIRM)
        for _ in range(3):
            with self.assertRaises(NothingRead):
                guesser.back()
            self.check(guesser, FIRM, ())
        guesser.read(2)
        guesser.back()
        with self.assertRaises(NothingRead):
            guesser.back()
        guesser.read(1)
        self.check(guesser, FIRM, (1,))

    def test_guessers_are_things_that_are_judged(self):
        guesser = Guesser(COIN)
        for function in (chances_at, guess, all_guesses):
            with self.assertRaises(NoMachine):
                function(guesser, 0)
        with self.assertRaises(NoState):
            chances_at(COIN, guesser)
        with self.assertRaises(NoRow):
            guess(COIN, (guesser,))


if __name__ == "__main__":
    unittest.main()
