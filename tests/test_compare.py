"""Point 13: machines compared for all rows."""

import random
import unittest
from fractions import Fraction

from keptmisses.compare import is_over, over, parting
from keptmisses.errors import MissError, NoMachine, OtherSize
from keptmisses.machines import allowed
from reckoned import far, halves, near, some_machine
from samples import (COIN, FOUR, MACHINES, SIX, THREE, TWO, Unchanged, flagged, misshaped, nested, never_right, number,
                     pair, put, relengthened, steps, unnumbered)
from side_by_side import (allowing, check_over, first_parting, found_pairs, greatest_of_all_rows, machines_of, potential,
                          walked)

NO_ROWS = [None, True, 0, "", "01", [], [0, 1], {}, {0: 1}, (-1,), (2,), (0, 2), (True,), (0, False), (None,), ("0",),
           ((0,),), ([0],), (0,) * 401, (0,) * 400 + (9,), nested("tuple", 30), nested("list", 30), nested("dict", 30)]


def alike(size, *allowances):
    """A machine of one state with these allowances."""
    return (size, (tuple((allowance, 0) for allowance in allowances),))


def no_machines():
    """Things that are no machine."""
    wrong = misshaped(TWO) + flagged(TWO) + unnumbered(TWO) + relengthened(TWO, but=[(1,)])
    return wrong + never_right() + [steps(2, 13), steps(2, 2, 2), steps(5, 1), list(COIN), (2, ()), MissError()]


def turned(machine, order):
    """The same machine with its states numbered otherwise; order[0] is 0."""
    rules = [None] * len(order)
    for state, place in enumerate(order):
        rules[place] = tuple((allowance, order[behind]) for allowance, behind in machine[1][state])
    return (machine[0], tuple(rules))


def doubled(machine):
    """A machine that allows the same, with each state twice, by turns."""
    count = len(machine[1])
    first = tuple(tuple((allowance, behind + count) for allowance, behind in rule) for rule in machine[1])
    return (machine[0], first + machine[1])


class Over(unittest.TestCase):
    def check(self, one, other):
        with Unchanged(self, one, other):
            told = over(one, other)
            self.assertEqual(over(one, other), told)
            check_over(self, told, allowing(one), allowing(other), lambda thing: is_over(one, other, thing))
        return told

    def test_by_hand(self):
        self.assertEqual(over(COIN, COIN), ("most", (0, 1), ()))
        self.assertEqual(over(alike(2, (1, 2), (1, 3)), COIN), ("most", (0, 1), ()))
        self.assertEqual(self.check(COIN, alike(2, (1, 2), (1, 3)))[0], "endless")
        once = (2, ((((1, 2), 0), ((3, 4), 1)), (((1, 2), 1), ((1, 4), 1))))
        self.assertEqual(over(once, COIN), ("most", (1, 4), (1,)))
        self.assertEqual(self.check(COIN, once)[0], "endless")
        self.assertEqual(over((2, ((((1, 2), 0), ((-3, 4), 1)), (((1, 2), 1), ((1, 4), 1)))), COIN), ("most", (0, 1), ()))
        by_turns = (2, ((((0, 1), 1), ((0, 1), 1)), (((1, 1), 0), ((1, 1), 0))))
        self.assertEqual(over(by_turns, COIN), ("most", (0, 1), ()))
        self.assertEqual(over(COIN, by_turns), ("most", (1, 2), (0,)))

    def test_the_earliest_of_several(self):
        # 1 more for letters 1 1 0; 1 more for letters 0 1; 1 more for letters 1 0.
        machine = (2, ((((1, 2), 1), ((1, 2), 2)), (((1, 2), 4), ((3, 2), 4)), (((3, 2), 4), ((1, 2), 3)),
                       (((3, 2), 4), ((1, 2), 4)), (((1, 2), 4), ((1, 2), 4))))
        self.assertEqual(over(machine, COIN), ("most", (1, 1), (0, 1)))
        less = put(machine, (1, 1, 1, 0), (1, 1))
        self.assertEqual(over(less, COIN), ("most", (1, 1), (1, 0)))
        self.assertEqual(over(put(less, (1, 2, 0, 0), (1, 1)), COIN), ("most", (1, 1), (1, 1, 0)))
        self.assertEqual(over(put(machine, (1, 3, 0, 0), (5, 3)), COIN), ("most", (7, 6), (1, 1, 0)))
        self.assertEqual(over(put(machine, (1, 2, 1, 0), (3, 2)), COIN), ("most", (2, 1), (1, 1, 0)))

    def test_a_ring_that_has_just_nothing_is_not_gone_round(self):
        ring = (2, ((((1, 1), 1), ((1, 2), 0)), (((0, 1), 0), ((0, 1), 0))))
        self.assertEqual(over(ring, COIN), ("most", (1, 2), (0,)))
        self.assertEqual(self.check(put(ring, (1, 1, 0, 0), (1, 1000)), COIN)[0], "endless")

    def test_rows_that_do_not_come_do_not_count(self):
        hidden = (2, COIN[1] + ((((9, 1), 1), ((9, 1), 1)),))
        self.assertEqual(over(hidden, COIN), ("most", (0, 1), ()))
        self.assertIsNone(parting(hidden, COIN))
        # Both are never in state 1 at once.
        one = (2, ((((1, 2), 1), ((1, 2), 0)), (((9, 1), 0), ((1, 2), 0))))
        other = (2, ((((1, 2), 0), ((1, 2), 1)), (((1, 2), 0), ((-9, 1), 0))))
        self.check(one, other)
        self.check(other, one)

    def test_as_by_all_rows(self):
        dice = random.Random(13)
        for _ in range(80):
            one, other = machines_of(dice, 2, 2), machines_of(dice, 2, 2)
            if dice.random() < 0.5:
                draw = (lambda dice: Fraction(1, 2))
                one, other = potential(dice, 2, 2, draw), potential(dice, 2, 2, draw)
            told = self.check(one, other)
            if told[0] == "most":
                most, row = greatest_of_all_rows(allowing(one), allowing(other), 6)
                self.assertEqual(told, ("most", pair(most), row))

    def test_machines_of_all_counts(self):
        dice = random.Random(131)
        told = {"most": 0, "endless": 0}
        for turn in range(150):
            size = dice.randint(2, 4)
            one, other = machines_of(dice, size, 6), machines_of(dice, size, 4)
            if turn % 3 == 0:
                one = potential(dice, size, dice.randint(1, 6), lambda dice: Fraction(dice.randint(0, 2), 4))
                other = potential(dice, size, dice.randint(1, 4), lambda dice: Fraction(dice.randint(2, 4), 4))
            if turn % 3 == 1:
                other = put(one, (1, dice.randrange(len(one[1])), 0, 0), (1, 1))
            told[self.check(one, other)[0]] += 1
        self.assertGreater(min(told.values()), 20)

    def test_twelve_states_each(self):
        dice = random.Random(132)
        for draw in (halves, far):
            self.check(some_machine(dice, 3, 12, draw), some_machine(dice, 3, 12, draw))
        self.check(*[potential(dice, 2, 12, lambda dice: Fraction(1, 2)) for _ in range(2)])
        self.check(near(dice, 4, 12, True), near(dice, 4, 12, False))

    def test_machines_that_are_alike(self):
        dice = random.Random(133)
        for machine in MACHINES + [near(dice, 3, 12, True), some_machine(dice, 2, 5, far)]:
            order = [0] + dice.sample(range(1, len(machine[1])), len(machine[1]) - 1)
            others = [machine, turned(machine, order)] + ([doubled(machine)] if len(machine[1]) <= 6 else [])
            for other in others:
                for pair_of in ((machine, other), (other, machine)):
                    self.assertEqual(over(*pair_of), ("most", (0, 1), ()))
                    self.assertIsNone(parting(*pair_of))

    def test_wrong(self):
        for thing in no_machines():
            for other in (COIN, THREE, None, thing):
                for one, two in ((thing, other), (other, thing)):
                    with Unchanged(self, one, two):
                        for function in (over, parting):
                            with self.assertRaises(NoMachine):
                                function(one, two)
                        with self.assertRaises(NoMachine):
                            is_over(one, two, ("endless", (), (0,)))
        for one in MACHINES:
            for other in MACHINES:
                if one[0] != other[0]:
                    with Unchanged(self, one, other):
                        for function in (over, parting):
                            with self.assertRaises(OtherSize):
                                function(one, other)
                        for thing in (("endless", (), (0,)), None, ()):
                            with self.assertRaises(OtherSize):
                                is_over(one, other, thing)


class IsOver(unittest.TestCase):
    # Behind letter 1 letter 0 is allowed 1 less than COIN allows; then letter 1 leads back.
    OTHER = (2, ((((1, 2), 0), ((1, 1), 1)), (((-1, 2), 1), ((1, 1), 0))))

    def check(self, thing, flag):
        with Unchanged(self, thing):
            self.assertIs(is_over(COIN, self.OTHER, thing), flag, thing)

    def test_right_and_not(self):
        for ahead, ring in (((1,), (0,)), ((1,), (0,) * 400), ((0,) * 399 + (1,), (0,)), ((), (1, 0, 0, 1)),
                            ((0, 1, 1), (0, 1, 0, 0, 1))):
            self.check(("endless", ahead, ring), True)
        for ahead, ring in (((), (0,)), ((), (1, 1)), ((), (1, 0, 1)), ((), (1, 0, 0)), ((1,), (1, 0)), ((1,), ()),
                            ((), ()), ((1,), (1, 1))):
            self.check(("endless", ahead, ring), False)
        self.assertIs(is_over(self.OTHER, COIN, ("endless", (1,), (0,))), False)
        self.assertIs(is_over(self.OTHER, COIN, ("endless", (), (1, 1))), True)
        self.assertIs(is_over(self.OTHER, self.OTHER, ("endless", (), (1, 1))), False)

    def test_both_are_led_back(self):
        swap = (2, ((((0, 1), 1), ((0, 1), 1)), (((0, 1), 0), ((0, 1), 0))))
        three = (2, tuple((((0, 1), (state + 1) % 3),) * 2 for state in range(3)))
        for many in range(1, 13):
            self.assertIs(is_over(COIN, swap, ("endless", (), (0,) * many)), many % 2 == 0)
            self.assertIs(is_over(COIN, three, ("endless", (1,), (0,) * many)), many % 3 == 0)
            self.assertIs(is_over(put(swap, (1, 0, 0, 0), (1, 2)), three, ("endless", (), (0,) * many)), many % 6 == 0)

    def test_no_such_triple(self):
        right = ("endless", (1,), (0,))
        self.check(right, True)
        for thing in misshaped(right) + never_right() + [put(right, (0,), word) for word in
                                                         ("most", "Endless", "", None, 0, True, ("endless",))]:
            self.check(thing, False)
        for row in NO_ROWS:
            self.check(("endless", row, (0,)), False)
            self.check(("endless", (1,), row), False)
        self.check(("endless", (1,), (0,) * 401), False)
        self.check(("endless", (0,) * 400 + (1,), (0,)), False)
        self.check(("endless", (True,), (0,)), False)
        self.check(("endless", (1,), (False,)), False)
        for thing in (right[:2], right + ((0,),), list(right), {"endless": right}, ("most", (1, 2), (0,)), right[1:]):
            self.check(thing, False)


class Parting(unittest.TestCase):
    def check(self, one, other, row):
        with Unchanged(self, one, other):
            for _ in range(2):
                self.assertEqual(parting(one, other), row)
                self.assertEqual(parting(other, one), row)

    def test_by_hand(self):
        self.check(COIN, COIN, None)
        self.check(COIN, alike(2, (1, 2), (1, 3)), (1,))
        self.check(COIN, alike(2, (1, 3), (1, 3)), (0,))
        by_turns = (2, ((((1, 2), 1), ((1, 2), 1)), (((1, 2), 0), ((1, 3), 0))))
        self.check(COIN, by_turns, (0, 1))
        self.check(by_turns, put(by_turns, (1, 1, 0, 0), (1, 3)), (0, 0))
        # Letter 0 leads there only behind two letters 1.
        later = (2, ((((1, 2), 0), ((1, 2), 1)), (((1, 2), 0), ((1, 2), 2)), (((1, 2), 2), ((3, 2), 2))))
        self.check(COIN, later, (1, 1, 1))
        self.check(COIN, put(later, (1, 2, 0, 0), (-1, 2)), (1, 1, 0))

    def test_unlike_sums_that_are_alike_later(self):
        # What is allowed less for one letter is allowed more for the next one.
        machine = (2, ((((0, 1), 1), ((0, 1), 1)), (((1, 1), 0), ((1, 1), 0))))
        self.check(COIN, machine, (0,))
        self.check(machine, turned(put(machine, (1, 1, 1, 0), (3, 4)), [0, 1]), (0, 1))

    def test_the_earliest_of_several(self):
        # From state 1, behind letter 0, letter 1 is unlike; from state 2, behind letter 1, letter 0 is.
        machine = (2, ((((1, 2), 1), ((1, 2), 2)), (((1, 2), 0), ((1, 1), 0)), (((0, 1), 0), ((1, 2), 0))))
        self.check(COIN, machine, (0, 1))
        self.check(COIN, put(machine, (1, 1, 1, 0), (1, 2)), (1, 0))
        self.check(COIN, put(machine, (1, 0, 1, 0), (0, 1)), (1,))

    def test_far_away(self):
        for count in (2, 5, 12):
            path = (3, tuple((((1, 2), 0), ((1, 3), 0), ((1, 4), min(state + 1, count - 1))) for state in range(count)))
            one = alike(3, (1, 2), (1, 3), (1, 4))
            self.check(one, path, None)
            for letter in range(3):
                wrong = put(path, (1, count - 1, letter, 0), (0, 1))
                self.check(one, wrong, (2,) * (count - 1) + (letter,))
            self.check(put(path, (1, count - 1, 1, 0), (0, 1)), put(path, (1, count - 1, 0, 0), (0, 1)),
                       (2,) * (count - 1) + (0,))

    def test_as_by_all_rows(self):
        dice = random.Random(134)
        none = 0
        for _ in range(200):
            one = some_machine(dice, 2, dice.randint(1, 3), halves)
            other = put(doubled(one), (1, dice.randrange(2 * len(one[1])), dice.randrange(2), 0), pair(halves(dice)))
            other = put(other, (1, dice.randrange(2 * len(one[1])), dice.randrange(2), 1), dice.randrange(len(one[1])))
            row = first_parting(allowing(one), allowing(other), 7)
            if row is not None:
                self.check(one, other, row)
            else:
                found = parting(one, other)
                none += found is None
                self.assertTrue(found is None or len(found) > 7)
        self.assertGreater(none, 20)

    def test_rows_and_none_hold(self):
        dice = random.Random(135)
        for _ in range(60):
            size = dice.randint(2, 4)
            one = some_machine(dice, size, 12, far)
            other = turned(one, [0] + dice.sample(range(1, 12), 11))
            place = (1, dice.randrange(12), dice.randrange(size))
            other = put(other, place + (0,), (7, 9))
            row = parting(one, other)
            if row is None:
                pairs = found_pairs(allowing(one), allowing(other))
                for states in pairs:
                    for letter in range(size):
                        self.assertEqual(walked(allowing(one), allowing(other), (letter,), states)[0], 0)
            else:
                self.assertNotEqual(allowed(one, row), allowed(other, row))
                for many in range(len(row)):
                    self.assertEqual(allowed(one, row[:many]), allowed(other, row[:many]))

    def test_the_samples(self):
        self.check(FOUR, put(FOUR, (1, 11, 1, 0), (-1, 4)), (2, 1))
        self.check(FOUR, put(FOUR, (1, 5, 1, 0), (-1, 4)), (0, 0, 0, 0, 0, 1))
        self.check(SIX, put(SIX, (1, 4, 1, 0), (-1, 4)), None)
        self.assertEqual(parting(SIX, THREE), (0,))
        self.assertEqual(parting(TWO, COIN), (0,))


if __name__ == "__main__":
    unittest.main()
