"""Point 14: machines put together."""

import random
import unittest
from fractions import Fraction

from keptmisses.algebra import added, mixed, relettered, trimmed
from keptmisses.chancers import most_gain
from keptmisses.compare import parting
from keptmisses.errors import MissError, NoBound, NoFraction, NoLetters, NoMachine, NoPart, OtherSize, TooMany
from keptmisses.heights import kept, least_heights, start
from keptmisses.machines import allowed, is_machine, reached, state_after
from reckoned import far, found_states, halves, more_allowed, near, small, some_machine
from samples import (COIN, FOUR, MACHINES, SIX, THREE, TWO, Unchanged, flagged, misshaped, nested, never_right, number,
                     pair, put, relengthened, steps, unnumbered)
from side_by_side import allowing, found_pairs

NO_FRACTIONS = [None, True, False, 0, 1, -1, "", "1/2", (), (1,), (1, 2, 3), [1, 2], {1: 2}, (2, 4), (0, 2), (1, 0), (0, 0),
                (1, -2), (-1, -2), (True, 1), (1, True), (False, 1), (0, True), ("1", 2), (1, None), ((1, 2), 1),
                nested("tuple", 30), nested("pair", 30), nested("list", 30), MissError()]


def no_machines():
    """Things that are no machine."""
    wrong = misshaped(TWO) + flagged(TWO) + unnumbered(TWO) + relengthened(TWO, but=[(1,)])
    return wrong + never_right() + [steps(2, 13), steps(2, 2, 2), steps(5, 1), list(COIN), (2, ()), MissError()]


def ring(count, size=2, allowance=(1, 2)):
    """A machine that goes round so many states."""
    return (size, tuple(((allowance, (state + 1) % count),) * size for state in range(count)))


class Added(unittest.TestCase):
    def check(self, machine, amount, made):
        with Unchanged(self, machine, amount):
            for _ in range(2):
                self.assertEqual(added(machine, amount), made)

    def test_by_hand(self):
        self.check(COIN, (1, 2), (2, ((((1, 1), 0), ((1, 1), 0)),)))
        self.check(COIN, (-1, 2), (2, ((((0, 1), 0), ((0, 1), 0)),)))
        self.check(TWO, (1, 3), (2, ((((2, 3), 1), ((1, 3), 0)), (((-8, 21), 0), ((4, 3), 1)))))
        for machine in MACHINES:
            self.check(machine, (0, 1), machine)

    def test_each_row_is_allowed_so_much_more_for_each_letter(self):
        dice = random.Random(14)
        for _ in range(40):
            machine = some_machine(dice, dice.randint(2, 4), dice.randint(1, 12), small)
            amount = Fraction(dice.randint(-30, 30), dice.randint(1, 7))
            with Unchanged(self, machine):
                made = added(machine, pair(amount))
            self.assertIs(is_machine(made), True)
            row = tuple(dice.randrange(machine[0]) for _ in range(dice.choice([0, 1, 20, 400])))
            self.assertEqual(number(allowed(made, row)), number(allowed(machine, row)) + len(row) * amount)
            self.assertEqual(state_after(made, row), state_after(machine, row))
            self.assertEqual(made, more_allowed(machine, amount))
            self.assertEqual(added(made, pair(-amount)), machine)

    def test_bounds(self):
        def one(allowance):
            return (2, ((((0, 1), 0), (allowance, 0)),))
        for allowance, amount, sum_of_both in (((999999, 1), (1, 1), (1000000, 1)), ((-999999, 1), (-1, 1), (-1000000, 1)),
                                               ((1, 1000), (1, 1000), (1, 500)), ((1, 8), (1, 125), (133, 1000)),
                                               ((-1000000, 1), (1000000, 1), (0, 1)), ((3, 1000), (-1, 1000), (1, 500)),
                                               ((999999, 1000), (1, 1000), (1000, 1)), ((999997, 3), (2, 3), (333333, 1)),
                                               ((1000000, 3), (-1, 3), (333333, 1))):
            self.check(one(allowance), amount, (2, (((amount, 0), (sum_of_both, 0)),)))
        for allowance, amount in (((1000000, 1), (1, 1)), ((-1000000, 1), (-1, 1)), ((1000000, 1), (1, 1000)),
                                  ((999999, 1), (2, 1)), ((1, 1000), (1, 3)), ((1, 999), (1, 1000)), ((1, 997), (1, 991)),
                                  ((0, 1), (1000001, 1)), ((0, 1), (1, 1001)), ((0, 1), (-1000001, 1)),
                                  ((1000000, 3), (1, 3)), ((0, 1), (10 ** 29, 1)), ((0, 1), (1, 10 ** 29)),
                                  ((1, 8), (1, 251)), ((1, 2), (1, 501)), ((0, 1), (-1, 10 ** 29)),
                                  ((500000, 3), (500000, 999))):
            for machine in (one(allowance), (2, COIN[1] + one(allowance)[1])):
                with Unchanged(self, machine, amount), self.assertRaises(NoBound):
                    added(machine, amount)

    def test_kept_exactly_if_at_least_most_gain_is_added(self):
        dice = random.Random(141)
        told = {True: 0, False: 0}
        for _ in range(60):
            machine = some_machine(dice, dice.randint(2, 4), dice.randint(1, 5), dice.choice([small, halves]))
            most = number(most_gain(machine))
            for less in (Fraction(-1, 7), Fraction(0), Fraction(1, 5), Fraction(1)):
                amount = Fraction(-(-most * 12 // 1), 12) - less
                try:
                    made = added(machine, pair(amount))
                except NoBound:
                    continue
                self.assertIs(kept(made), amount >= most)
                told[amount >= most] += 1
            if most.denominator <= 16:
                self.assertIs(kept(added(machine, pair(most))), True)
                self.assertIs(kept(added(machine, pair(most - Fraction(1, 2)))), False)
        self.assertGreater(min(told.values()), 50)

    def test_wrong(self):
        for thing in no_machines():
            for amount in ((1, 2), None, (1, 0)):
                with Unchanged(self, thing, amount), self.assertRaises(NoMachine):
                    added(thing, amount)
        for machine in MACHINES:
            for amount in NO_FRACTIONS:
                with Unchanged(self, machine, amount), self.assertRaises(NoFraction):
                    added(machine, amount)


class Relettered(unittest.TestCase):
    def check(self, machine, letters, made):
        with Unchanged(self, machine, letters):
            for _ in range(2):
                self.assertEqual(relettered(machine, letters), made)

    def test_by_hand(self):
        self.check(TWO, (0, 1), TWO)
        self.check(TWO, (1, 0), (2, ((((0, 1), 0), ((1, 3), 1)), (((1, 1), 1), ((-5, 7), 0)))))
        letters = (1, 2, 0)
        machine = (3, ((((1, 1), 0), ((2, 1), 0), ((3, 1), 0)),))
        self.check(machine, letters, (3, ((((3, 1), 0), ((1, 1), 0), ((2, 1), 0)),)))
        self.check(machine, (2, 0, 1), (3, ((((2, 1), 0), ((3, 1), 0), ((1, 1), 0)),)))

    def test_rows_of_the_new_letters(self):
        dice = random.Random(142)
        for _ in range(60):
            size = dice.randint(2, 4)
            machine = some_machine(dice, size, dice.randint(1, 12), small)
            letters = tuple(dice.sample(range(size), size))
            made = relettered(machine, letters)
            self.assertIs(is_machine(made), True)
            for many in (1, 1, 1, 1, 7, 400):
                row = tuple(dice.randrange(size) for _ in range(many))
                other = tuple(letters[letter] for letter in row)
                self.assertEqual(allowed(made, other), allowed(machine, row))
                self.assertEqual(state_after(made, other), state_after(machine, row))
            self.assertEqual(least_heights(made), least_heights(machine))
            back = tuple(letters.index(letter) for letter in range(size))
            self.assertEqual(relettered(made, back), machine)

    def test_wrong(self):
        for thing in no_machines():
            for letters in ((0, 1), None, (0, 0), ()):
                with Unchanged(self, thing, letters), self.assertRaises(NoMachine):
                    relettered(thing, letters)
        for machine in MACHINES:
            size = machine[0]
            right = tuple(range(size))
            wrong = [right[:-1], right + (size,), right + (0,), right[:-1] + (0,), right[:-1] + (size,), right[:-1] + (-1,),
                     list(right), dict(enumerate(right)), "01", "0123", (False,) + right[1:], (0, True) + right[2:],
                     right[::-1] + (size - 1,), tuple(map(str, right)), (right,), (0,) * size, (None,) * size,
                     ((),) * size, right[1:] + ([0],), right[1:] + (None,), right[1:] + ({},)]
            for letters in wrong + [thing for thing in never_right() if thing != right]:
                with Unchanged(self, machine, letters), self.assertRaises(NoLetters):
                    relettered(machine, letters)


class Mixed(unittest.TestCase):
    def check(self, one, other, part, made):
        with Unchanged(self, one, other, part):
            for _ in range(2):
                self.assertEqual(mixed(one, other, part), made)

    def test_by_hand(self):
        none = (2, ((((0, 1), 0), ((1, 1), 0)),))
        self.check(COIN, none, (1, 2), (2, ((((1, 4), 0), ((3, 4), 0)),)))
        self.check(COIN, none, (1, 3), (2, ((((1, 3), 0), ((2, 3), 0)),)))
        self.check(none, COIN, (1, 3), (2, ((((1, 6), 0), ((5, 6), 0)),)))
        self.check(COIN, none, (0, 1), COIN)
        self.check(COIN, none, (1, 1), none)
        self.check(TWO, COIN, (0, 1), TWO)
        self.check(COIN, TWO, (1, 1), TWO)
        self.check(TWO, TWO, (2, 5), TWO)

    def test_states_are_numbered_as_they_are_first_come_to(self):
        # Letter 1 comes to states 0 and 2 ahead of letters 0 1 to 2 and 1.
        one = (2, ((((1, 1), 2), ((2, 1), 0)), (((3, 1), 1), ((4, 1), 0)), (((5, 1), 0), ((6, 1), 2))))
        other = (2, ((((0, 1), 0), ((0, 1), 1)), (((0, 1), 0), ((0, 1), 1))))
        self.assertEqual(found_pairs(allowing(one), allowing(other)), [(0, 0), (2, 0), (0, 1), (2, 1)])
        self.check(one, other, (0, 1), (2, ((((1, 1), 1), ((2, 1), 2)), (((5, 1), 0), ((6, 1), 3)),
                                            (((1, 1), 1), ((2, 1), 2)), (((5, 1), 0), ((6, 1), 3)))))
        self.check(one, other, (1, 2), (2, ((((1, 2), 1), ((1, 1), 2)), (((5, 2), 0), ((3, 1), 3)),
                                            (((1, 2), 1), ((1, 1), 2)), (((5, 2), 0), ((3, 1), 3)))))
        self.check(other, one, (1, 1), (2, ((((1, 1), 1), ((2, 1), 2)), (((5, 1), 0), ((6, 1), 3)),
                                            (((1, 1), 1), ((2, 1), 2)), (((5, 1), 0), ((6, 1), 3)))))
        self.check(SIX, SIX, (1, 2), trimmed(SIX))
        later = (2, ((((1, 1), 1), ((1, 1), 1)), (((1, 1), 3), ((1, 1), 2)), (((1, 1), 0),) * 2, (((2, 1), 0),) * 2))
        self.check(later, COIN, (0, 1), (2, ((((1, 1), 1), ((1, 1), 1)), (((1, 1), 2), ((1, 1), 3)), (((2, 1), 0),) * 2,
                                             (((1, 1), 0),) * 2)))

    def test_as_described(self):
        dice = random.Random(143)
        made = 0
        for _ in range(300):
            size = dice.randint(2, 4)
            one = some_machine(dice, size, dice.randint(1, 4), small)
            other = some_machine(dice, size, dice.randint(1, 4), halves)
            part = Fraction(dice.randint(0, 4), 4)
            pairs = found_pairs(allowing(one), allowing(other))
            if len(pairs) > 12:
                with self.assertRaises(TooMany) as caught:
                    mixed(one, other, pair(part))
                self.assertEqual(caught.exception.most, 12)
                continue
            made += 1
            rules = []
            for state, other_state in pairs:
                rule = []
                for (allowance, behind), (other_allowance, other_behind) in zip(one[1][state], other[1][other_state]):
                    mean = (1 - part) * number(allowance) + part * number(other_allowance)
                    rule.append((pair(mean), pairs.index((behind, other_behind))))
                rules.append(tuple(rule))
            self.check(one, other, pair(part), (size, tuple(rules)))
            row = tuple(dice.randrange(size) for _ in range(50))
            self.assertEqual(number(allowed(mixed(one, other, pair(part)), row)),
                             (1 - part) * number(allowed(one, row)) + part * number(allowed(other, row)))
        self.assertGreater(made, 100)

    def test_twelve_and_thirteen_pairs(self):
        for one, other in ((ring(3), ring(4)), (ring(12), COIN), (COIN, ring(12)), (ring(12), ring(6)), (ring(12), ring(12)),
                           (ring(4), ring(6)), (ring(2), ring(12))):
            self.check(one, other, (1, 3), ring(12))
        for one, other in ((ring(5), ring(3)), (ring(2), ring(7)), (ring(12), ring(11)), (ring(12), ring(5)),
                           (ring(12), ring(8))):
            self.check_too_many(one, other)
        # Two states and a path ahead of them: twelve pairs, or thirteen with one state more on the path.
        def path(count):
            return (2, tuple((((1, 2), state + 1),) * 2 for state in range(count - 1)) + ((((1, 2), count - 1),) * 2,))
        either = (2, ((((1, 2), 0), ((1, 2), 1)), (((1, 2), 1), ((1, 2), 1))))
        for count in (1, 2, 3):
            self.assertEqual(len(found_pairs(allowing(path(count)), allowing(either))), 2 * count - (count > 1))
        for count in range(2, 7):
            self.assertEqual(len(mixed(path(count), either, (1, 2))[1]), 2 * count - 1)
        self.check_too_many(path(7), either)
        found = {len(found_pairs(allowing(one), allowing(two))): (one, two) for one, two in self.some_pairs()}
        self.assertEqual(len(mixed(*found[12], (1, 2))[1]), 12)
        self.check_too_many(*found[13])

    def some_pairs(self):
        dice = random.Random(144)
        for _ in range(300):
            yield some_machine(dice, 2, dice.randint(3, 5), halves), some_machine(dice, 2, dice.randint(3, 5), halves)

    def check_too_many(self, one, other):
        for part in ((0, 1), (1, 1), (1, 2), (1, 10 ** 29)):
            with Unchanged(self, one, other), self.assertRaises(TooMany) as caught:
                mixed(one, other, part)
            self.assertEqual(caught.exception.most, 12)

    def test_bounds(self):
        def one(allowance):
            return (2, ((((0, 1), 0), (allowance, 0)),))
        self.check(one((1, 1000)), one((1, 1000)), (1, 997), one((1, 1000)))
        self.check(one((1000000, 1)), one((1000000, 1)), (1, 997), one((1000000, 1)))
        self.check(one((1, 25)), one((0, 1)), (39, 40), one((1, 1000)))
        self.check(one((0, 1)), one((-1000000, 1)), (1, 3), one((-1000000, 3)))
        self.check(one((-1, 1)), one((0, 1)), (1, 1000), one((-999, 1000)))
        self.check(one((999999, 1)), one((1000000, 1)), (1, 1), one((1000000, 1)))
        for first, second, part in (((1, 1000), (0, 1), (1, 2)), ((1, 999), (1, 1000), (1, 2)), ((1, 1), (0, 1), (1, 1001)),
                                    ((1, 1), (0, 1), (1, 10 ** 29)), ((999999, 1), (1000000, 1), (1, 2)),
                                    ((0, 1), (-1000000, 1), (2, 1003)), ((0, 1), (1000000, 1), (1, 1001)),
                                    ((1, 997), (1, 991), (1, 2)), ((1000000, 3), (999999, 2), (1, 2))):
            with Unchanged(self, first, second, part), self.assertRaises(NoBound):
                mixed(one(first), one(second), part)
        # What no row leads to does not count.
        hidden = (2, COIN[1] + ((((1, 997), 1), ((1, 1000), 1)),))
        self.check(hidden, one((1, 2)), (1, 2), (2, ((((1, 4), 0), ((1, 2), 0)),)))
        # More than twelve is told ahead of bounds.
        with self.assertRaises(TooMany):
            mixed(ring(12, 2, (1, 997)), ring(11, 2, (1, 991)), (1, 2))

    def test_a_start_is_at_most_mixed_too(self):
        dice = random.Random(145)
        less = 0
        for _ in range(80):
            size = dice.randint(2, 4)
            one, other = near(dice, size, dice.randint(1, 4), True), near(dice, size, dice.randint(1, 3), True)
            one, other = [(size, tuple(tuple((pair(Fraction(-(-number(allowance) * 4 // 1), 4)), behind)
                                             for allowance, behind in rule) for rule in machine[1]))
                          for machine in (one, other)]
            part = Fraction(dice.randint(0, 8), 8)
            made = mixed(one, other, pair(part))
            most = (1 - part) * number(start(one)) + part * number(start(other))
            self.assertLessEqual(number(start(made)), most)
            less += number(start(made)) < most
        self.assertGreater(less, 5)

    def test_wrong(self):
        for thing in no_machines():
            for part in ((1, 2), None):
                for one, other in ((thing, COIN), (COIN, thing), (thing, thing), (thing, THREE), (FOUR, thing)):
                    with Unchanged(self, one, other), self.assertRaises(NoMachine):
                        mixed(one, other, part)
        for one in MACHINES:
            for other in MACHINES:
                if one[0] != other[0]:
                    for part in ((1, 2), None, (3, 2)):
                        with Unchanged(self, one, other), self.assertRaises(OtherSize):
                            mixed(one, other, part)
        for part in NO_FRACTIONS + [(-1, 1), (-1, 10 ** 29), (10 ** 29 + 1, 10 ** 29), (2, 1), (3, 2), (1001, 1000)]:
            for one, other in ((COIN, COIN), (TWO, COIN), (ring(12), ring(11))):
                with Unchanged(self, one, other, part), self.assertRaises(NoPart):
                    mixed(one, other, part)


class Trimmed(unittest.TestCase):
    def test_by_hand(self):
        for machine in (COIN, TWO, THREE, FOUR):
            self.assertEqual(trimmed(machine), machine)
        self.assertEqual(trimmed(SIX), (3, SIX[1][:3]))
        machine = (2, ((((1, 2), 3), ((1, 3), 0)), (((1, 1), 1), ((0, 1), 0)), (((1, 5), 0), ((1, 6), 3)),
                       (((2, 3), 2), ((3, 4), 3))))
        self.assertEqual(trimmed(machine), (2, ((((1, 2), 2), ((1, 3), 0)), (((1, 5), 0), ((1, 6), 2)),
                                                (((2, 3), 1), ((3, 4), 2)))))
        alone = (2, ((((1, 2), 0),) * 2,) + ((((1, 2), 3),) * 2,) * 11)
        self.assertEqual(trimmed(alone), COIN)

    def test_as_described(self):
        dice = random.Random(146)
        fewer = 0
        for _ in range(120):
            size = dice.randint(2, 4)
            machine = some_machine(dice, size, dice.randint(1, 12), dice.choice([small, far]))
            with Unchanged(self, machine):
                made = trimmed(machine)
                self.assertEqual(trimmed(machine), made)
            found = found_states(machine)
            rules = [tuple((allowance, found.index(behind)) for allowance, behind in machine[1][state]) for state in found]
            self.assertEqual(made, (size, tuple(rules)))
            self.assertIs(is_machine(made), True)
            self.assertEqual(reached(made), tuple(range(len(found))))
            self.assertIsNone(parting(machine, made))
            self.assertEqual(start(made), start(machine))
            fewer += len(found) < len(machine[1])
        self.assertGreater(fewer, 20)

    def test_wrong(self):
        for thing in no_machines():
            with Unchanged(self, thing), self.assertRaises(NoMachine):
                trimmed(thing)


if __name__ == "__main__":
    unittest.main()
