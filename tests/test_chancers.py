"""Point 9: chancers, what they gain, and the main sentence's first half."""

import random
import unittest
from fractions import Fraction
from itertools import product

from keptmisses.chancers import best_chancer, gain, is_chancer, is_winner, most_gain, shares, winner
from keptmisses.errors import NoChancer, NoMachine
from keptmisses.heights import climbed, is_heights, kept, least_heights
from reckoned import (all_chancers, draw_gain, far, found_states, gain_of, halves, is_ring, lots, more_allowed, near,
                      shares_of, small, some_machine, wide)
from samples import (COIN, FOUR, MACHINES, SIX, THREE, TWO, Unchanged, flagged, misshaped, nested, never_right, number,
                     pair, put, relengthened, steps, unnumbered)

# From 0 to 1 by each letter, from 1 to 2 or back to 0, from 2 to 0 or to itself; 3 is not reached.
WALK = (2, ((((0, 1), 1), ((1, 2), 1)), (((1, 3), 2), ((1, 4), 0)), (((1, 5), 0), ((-1, 7), 2)), (((0, 1), 3), ((0, 1), 0))))
ALL_OF_WALK = (((2, (1,)),), ((0, (0,)), (1, (1,))), ((0, (1,)), (1, (1,))), ((0, (0, 1)), (1, (1,))),
               ((0, (0,)), (1, (0,)), (2, (0,))), ((0, (0,)), (1, (0,)), (2, (0, 1))),
               ((0, (1,)), (1, (0,)), (2, (0,))), ((0, (1,)), (1, (0,)), (2, (0, 1))),
               ((0, (0, 1)), (1, (0,)), (2, (0,))), ((0, (0, 1)), (1, (0,)), (2, (0, 1))),
               ((0, (0,)), (1, (0, 1)), (2, (0,))), ((0, (0,)), (1, (0, 1)), (2, (0, 1))),
               ((0, (1,)), (1, (0, 1)), (2, (0,))), ((0, (1,)), (1, (0, 1)), (2, (0, 1))),
               ((0, (0, 1)), (1, (0, 1)), (2, (0,))), ((0, (0, 1)), (1, (0, 1)), (2, (0, 1))))


def ring_of(dice, machine):
    """Some chancer of a machine: what random lots lead round in."""
    chosen = {state: tuple(sorted(dice.sample(range(machine[0]), dice.randint(1, machine[0]))))
              for state in found_states(machine)}
    while True:
        state = dice.choice(list(chosen))
        now = {state}
        for _ in chosen:
            now |= {machine[1][other][letter][1] for other in now for letter in chosen[other]}
        chancer = tuple((state, chosen[state]) for state in sorted(now))
        if is_ring(machine, chancer):
            return chancer
        chosen = {state: chosen[state] for state in now}


def some_machines(dice, many):
    """Machines of all sizes with 1 to 12 states."""
    told = []
    for _ in range(many):
        told.append(some_machine(dice, dice.randint(2, 4), dice.randint(1, 12), dice.choice([small, halves, wide, far])))
    return told


class IsChancer(unittest.TestCase):
    def check(self, right, machine, thing):
        with Unchanged(self, machine, thing):
            self.assertIs(is_chancer(machine, thing), right, repr(thing)[:200])
            self.assertIs(is_chancer(machine, thing), right)
            if not right:
                self.assertIs(is_winner(machine, thing), False)
                for function in (shares, gain):
                    with self.assertRaises(NoChancer):
                        function(machine, thing)

    def test_one_state(self):
        for size in (2, 3, 4):
            machine = steps(size, 1)
            for lot in lots(size):
                self.check(True, machine, ((0, lot),))

    def test_all_of_a_machine(self):
        self.assertEqual(sorted(all_chancers(WALK)), sorted(ALL_OF_WALK))
        for chancer in ALL_OF_WALK:
            self.check(True, WALK, chancer)
        some = lots(2)
        for chosen in product([None] + some, repeat=4):
            chancer = tuple((state, lot) for state, lot in enumerate(chosen) if lot)
            self.check(chancer in ALL_OF_WALK, WALK, chancer)

    def test_a_letter_that_leads_out(self):
        self.check(False, WALK, ((2, (0,)),))
        self.check(False, WALK, ((2, (0, 1)),))
        self.check(False, WALK, ((0, (0,)), (1, (0,))))
        self.check(False, WALK, ((0, (0,)), (1, (0, 1))))

    def test_a_state_that_is_not_come_to_again(self):
        self.check(False, WALK, ((0, (0,)), (1, (1,)), (2, (1,))))
        self.check(False, WALK, ((0, (0,)), (1, (0,)), (2, (1,))))
        self.check(False, WALK, ((0, (0, 1)), (1, (0, 1)), (2, (1,))))
        self.check(False, WALK, ((1, (0,)), (2, (1,))))
        apart = (2, ((((0, 1), 0), ((0, 1), 1)), (((0, 1), 1), ((0, 1), 1))))
        self.check(True, apart, ((0, (0,)),))
        self.check(True, apart, ((1, (1,)),))
        self.check(False, apart, ((0, (0,)), (1, (0,))))
        self.check(False, apart, ((0, (0, 1)), (1, (0,))))

    def test_a_state_that_is_not_reached(self):
        self.check(False, WALK, ((3, (0,)),))
        self.check(False, SIX, ((3, (0,)), (4, (0,)), (5, (0,))))
        self.check(True, SIX, ((2, (0,)),))
        self.check(False, steps(2, 2), ((1, (0,)),))
        self.check(False, WALK, ((2, (1,)), (3, (0,))))

    def test_order_and_doubles(self):
        right = ((0, (0,)), (1, (0,)), (2, (0,)))
        self.check(True, WALK, right)
        for order in ((0, 2, 1), (1, 0, 2), (1, 2, 0), (2, 0, 1), (2, 1, 0), (0, 0, 1, 2), (0, 1, 1, 2), (0, 1, 2, 2),
                      (0, 1, 2, 0), (0, 1, 2, 0, 1, 2)):
            self.check(False, WALK, tuple(right[place] for place in order))
        self.check(False, WALK, ((0, (0,)), (0, (1,)), (1, (1,))))
        machine = steps(4, 1)
        for lot in ((), (1, 0), (0, 0), (0, 1, 1), (0, 2, 1), (3, 2, 1, 0), (0, 1, 2, 3, 3), (1, 1)):
            self.check(False, machine, ((0, lot),))

    def test_no_letters_and_no_states_of_the_machine(self):
        for machine in (COIN, steps(3, 1), steps(4, 1)):
            size = machine[0]
            for letter in (size, size + 1, -1, -size, 10 ** 29, True, False, None, "0", (0,), [0]):
                for lot in ((letter,), (0, letter), (letter, size - 1)):
                    self.check(False, machine, ((0, lot),))
            for state in (1, -1, 12, 10 ** 29, False, None, "0", (0,), [0]):
                self.check(False, machine, ((state, (0,)),))
        self.check(False, WALK, ((False, (0,)), (True, (1,))))
        self.check(False, WALK, ((0, (False,)), (1, (True,))))
        self.check(False, WALK, ((0, (0,)), (True, (1,))))

    def test_wrong_kinds_at_every_place(self):
        for machine, right in ((WALK, ALL_OF_WALK[-1]), (WALK, ALL_OF_WALK[0]), (COIN, ((0, (0, 1)),)), (COIN, ((0, (0,)),))):
            self.check(True, machine, right)
            lotless = [(place, 1) for place in range(len(right))]
            wrong = misshaped(right) + unnumbered(right) + flagged(right) + relengthened(right, but=lotless)
            for thing in wrong:
                self.check(False, machine, thing)
            for kind in ("tuple", "pair", "list", "dict"):
                for path in ((), (0,), (0, 0), (0, 1), (0, 1, 0)):
                    self.check(False, machine, put(right, path, nested(kind, 30 - len(path))))

    def test_no_chancers_at_all(self):
        for machine in (COIN, WALK, FOUR):
            for thing in never_right() + [2, (), ((),), (((0,),),), {0: (0,)}, ((0, (0,), 1),), machine, (0, (0,))]:
                self.check(False, machine, thing)

    def test_as_by_coming_to_them(self):
        dice = random.Random(9)
        told = []
        for machine in some_machines(dice, 150):
            self.check(True, machine, ring_of(dice, machine))
            found = found_states(machine)
            for _ in range(6):
                states = sorted(dice.sample(found, dice.randint(1, min(4, len(found)))))
                chancer = tuple((state, dice.choice(lots(machine[0]))) for state in states)
                told.append(is_ring(machine, chancer))
                self.check(told[-1], machine, chancer)
        self.assertGreater(told.count(True), 50)
        self.assertGreater(told.count(False), 50)

    def test_no_machine_ahead_of_no_chancer(self):
        wrong = misshaped(TWO) + flagged(TWO) + [steps(2, 13), steps(2, 2, 2), steps(5, 1), list(COIN), (2, ())]
        for thing in wrong + never_right():
            for other in (((0, (0,)),), (), None, nested("tuple", 30)):
                for function in (is_chancer, is_winner, shares, gain):
                    with Unchanged(self, thing, other), self.assertRaises(NoMachine):
                        function(thing, other)
            for function in (winner, most_gain, best_chancer):
                with Unchanged(self, thing), self.assertRaises(NoMachine):
                    function(thing)


class Gains(unittest.TestCase):
    def check(self, machine, chancer, parts, gained):
        with Unchanged(self, machine, chancer):
            for _ in range(2):
                self.assertEqual(shares(machine, chancer), parts)
                self.assertEqual(gain(machine, chancer), gained)
                self.assertIs(is_winner(machine, chancer), gained[0] > 0)

    def check_as_described(self, machine, chancer):
        found = shares(machine, chancer)
        self.assertIsInstance(found, tuple)
        numbers = [number(share) for share in found]
        self.assertEqual(found, tuple(pair(share) for share in numbers))
        self.assertEqual(len(found), len(chancer))
        self.assertTrue(all(share > 0 for share in numbers))
        self.assertEqual(sum(numbers), 1)
        for (state, _), share in zip(chancer, numbers):
            come = sum(other / len(lot) for (origin, lot), other in zip(chancer, numbers) for letter in lot
                       if machine[1][origin][letter][1] == state)
            self.assertEqual(come, share)
        self.assertEqual(numbers, shares_of(machine, chancer))
        gained = sum(share * draw_gain(machine, state, lot) for share, (state, lot) in zip(numbers, chancer))
        self.check(machine, chancer, found, pair(gained))

    def test_one_state(self):
        for size in (2, 3, 4):
            machine = (size, (tuple(((letter + 1, 7), 0) for letter in range(size)),))
            for lot in lots(size):
                gained = 1 - Fraction(1, len(lot)) - Fraction(sum(lot) + len(lot), 7 * len(lot))
                self.check(machine, ((0, lot),), ((1, 1),), pair(gained))

    def test_a_walk(self):
        self.check(WALK, ((2, (1,)),), ((1, 1),), (1, 7))
        self.check(WALK, ((0, (0,)), (1, (1,))), ((1, 2), (1, 2)), (-1, 8))
        self.check(WALK, ((0, (0, 1)), (1, (1,))), ((1, 2), (1, 2)), (0, 1))
        self.check(WALK, ((0, (0,)), (1, (0,)), (2, (0,))), ((1, 3),) * 3, (-8, 45))
        self.check(WALK, ((0, (0,)), (1, (0,)), (2, (0, 1))), ((1, 4), (1, 4), (1, 2)),
                   pair(Fraction(-1, 12) + Fraction(1, 2) * (Fraction(1, 2) - Fraction(1, 35))))
        self.check(WALK, ((0, (0, 1)), (1, (0, 1)), (2, (0, 1))), ((1, 3),) * 3,
                   pair((Fraction(3, 2) - Fraction(1, 4) - Fraction(7, 24) - Fraction(1, 35)) / 3))

    def test_all_chancers_of_small_machines(self):
        dice = random.Random(90)
        for _ in range(40):
            size, count = dice.choice([(2, 3), (3, 2), (4, 1), (2, 2)])
            machine = some_machine(dice, size, count, dice.choice([small, halves, wide, far]))
            for chancer in all_chancers(machine):
                self.check_as_described(machine, chancer)

    def test_chancers_of_large_machines(self):
        dice = random.Random(91)
        for machine in some_machines(dice, 100) + [some_machine(dice, 4, 12, wide) for _ in range(20)]:
            self.check_as_described(machine, ring_of(dice, machine))

    def test_twelve_states(self):
        ring = (4, tuple((((1, 997), (state + 1) % 12), ((1, 991), 0), ((2, 983), state), ((1, 1), 0)) for state in range(12)))
        self.check(ring, tuple((state, (0,)) for state in range(12)), ((1, 12),) * 12, (-1, 997))
        self.check_as_described(ring, tuple((state, (0, 1)) for state in range(12)))
        self.check_as_described(ring, tuple((state, (0, 1, 2, 3)) for state in range(12)))
        self.assertEqual(shares(ring, tuple((state, (0, 1)) for state in range(12))),
                         tuple(pair(Fraction(2 ** (11 - state), 2 ** 12 - 1)) for state in range(12)))


class Most(unittest.TestCase):
    def check_as_described(self, machine):
        with Unchanged(self, machine):
            told = [winner(machine), most_gain(machine), best_chancer(machine)]
            self.assertEqual([winner(machine), most_gain(machine), best_chancer(machine)], told)
        found, most, best = told
        self.assertEqual(most, pair(number(most)))
        self.assertIs(is_chancer(machine, best), True)
        self.assertEqual(gain_of(machine, best), number(most))
        self.assertEqual(gain(machine, best), most)
        self.assertIs(is_winner(machine, best), most[0] > 0)
        self.assertEqual(found is None, most[0] <= 0)
        self.assertEqual(kept(machine), most[0] <= 0)
        if found is not None:
            self.assertIs(is_winner(machine, found), True)
            self.assertGreater(gain_of(machine, found), 0)
            self.assertLessEqual(gain_of(machine, found), number(most))
        return number(most)

    def check_no_more(self, machine, most):
        """With the greatest gain added there are heights, lot by lot, so that no chancer gains more."""
        (tops, bottom), _ = climbed(machine, pair(most))
        for state in found_states(machine):
            for lot in lots(machine[0]):
                behind = sum(Fraction(tops[machine[1][state][letter][1]], bottom) for letter in lot) / len(lot)
                self.assertGreaterEqual(Fraction(tops[state], bottom), draw_gain(machine, state, lot) - most + behind)

    def test_the_greatest_of_all_chancers(self):
        dice = random.Random(92)
        told = []
        for _ in range(150):
            size, count = dice.choice([(2, 3), (3, 2), (4, 1), (2, 2), (4, 2)])
            machine = some_machine(dice, size, count, dice.choice([small, halves, wide, far]))
            most = self.check_as_described(machine)
            self.assertEqual(most, max(gain_of(machine, chancer) for chancer in all_chancers(machine)))
            told.append(most > 0)
        self.assertGreater(told.count(True), 20)
        self.assertGreater(told.count(False), 20)

    def test_a_walk(self):
        self.assertEqual(most_gain(WALK), pair(max(gain_of(WALK, chancer) for chancer in ALL_OF_WALK)))
        self.assertEqual(best_chancer(WALK), max(ALL_OF_WALK, key=lambda chancer: gain_of(WALK, chancer)))

    def test_by_hand(self):
        for size, enough in ((2, (1, 2)), (3, (2, 3)), (4, (3, 4))):
            machine = (size, (tuple((enough, 0) for _ in range(size)),))
            self.assertEqual((most_gain(machine), winner(machine)), ((0, 1), None))
            little = put(machine, (1, 0, size - 1, 0), pair(number(enough) - Fraction(1, 200)))
            self.assertEqual(most_gain(little), pair(Fraction(1, 200 * size)))
            self.assertEqual(winner(little), ((0, tuple(range(size))),))
            self.assertEqual(best_chancer(little), winner(little))
        self.assertEqual(most_gain(THREE), (1000000, 1))
        self.assertEqual(best_chancer(THREE), ((0, (1,)),))
        self.assertIsNone(winner(put(THREE, (1, 0, 1, 0), (1, 1))))
        self.assertEqual(winner(put(THREE, (1, 0, 1, 0), (99, 100))), ((0, (1, 2)),))
        self.assertEqual(most_gain((4, ((((1000000, 1), 0),) * 4,))), pair(Fraction(3, 4) - 1000000))
        self.assertEqual(best_chancer((4, ((((1000000, 1), 0),) * 4,))), ((0, (0, 1, 2, 3)),))
        self.assertEqual(most_gain((4, ((((-1000000, 1), 0),) * 4,))), pair(Fraction(3, 4) + 1000000))

    def test_only_reached_states_count(self):
        self.assertEqual(most_gain((2, ((((1, 1), 0), ((1, 1), 0)), (((-5, 1), 1), ((-5, 1), 1))))), (-1, 2))
        self.assertIsNone(winner((2, ((((1, 1), 0), ((1, 1), 0)), (((-5, 1), 1), ((-5, 1), 1))))))
        for machine in MACHINES + [WALK]:
            self.check_as_described(machine)
            self.assertTrue(set(state for state, _ in best_chancer(machine)) <= set(found_states(machine)))

    def test_large_machines(self):
        dice = random.Random(93)
        machines = some_machines(dice, 60) + [some_machine(dice, 4, 12, wide) for _ in range(5)]
        machines += [near(dice, size, 12, enough) for size in (2, 3, 4) for enough in (True, False)]
        for machine in machines:
            most = self.check_as_described(machine)
            self.check_no_more(machine, most)
            for _ in range(5):
                self.assertLessEqual(gain_of(machine, ring_of(dice, machine)), most)

    def test_a_winner_exactly_if_there_are_no_heights(self):
        dice = random.Random(94)
        told = []
        for machine in some_machines(dice, 240):
            heights = least_heights(machine)
            found = winner(machine)
            told.append(found is None)
            self.assertEqual(heights is None, found is not None)
            if found is None:
                self.assertIs(is_heights(machine, heights), True)
            else:
                self.assertIs(is_winner(machine, found), True)
        self.assertGreater(told.count(True), 20)
        self.assertGreater(told.count(False), 20)

    def test_an_even_amount_added(self):
        dice = random.Random(95)
        for _ in range(60):
            machine = some_machine(dice, dice.randint(2, 4), dice.randint(1, 5), halves)
            most = number(most_gain(machine))
            for less in (0, Fraction(1, 100), 1):
                if (most - less).denominator <= 500:
                    raised = more_allowed(machine, most - less)
                    self.assertEqual(number(most_gain(raised)), less)
                    self.assertEqual(kept(raised), less == 0)


if __name__ == "__main__":
    unittest.main()
