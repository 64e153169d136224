"""Point 6: machines, rows and chances as they are judged, and which states are reached."""

import random
import unittest

from keptmisses.errors import NoMachine, NoSize
from keptmisses.machines import is_chances, is_machine, is_row, reached
from samples import (CHANCES, COIN, FOUR, MACHINES, SIX, TWO, Unchanged, flagged, integer_paths, misshaped, nested,
                     never_right, put, relengthened, steps, unnumbered)

NO_SIZES = [1, 5, 0, -2, True, False, None, "2", (2,), [2], {2: 2}, (), 10 ** 29, nested("list", 30), nested("tuple", 30)]


class IsMachine(unittest.TestCase):
    def check(self, right, things):
        for thing in things:
            with Unchanged(self, thing):
                self.assertIs(is_machine(thing), right, repr(thing)[:200])
                self.assertIs(is_machine(thing), right)

    def test_machines(self):
        self.check(True, MACHINES)
        for size in (2, 3, 4):
            self.check(True, [steps(size, count) for count in range(1, 13)])
            self.check(True, [steps(size, 12, 11), steps(size, 1, 0)])

    def test_bounds_of_the_allowances(self):
        for top, bottom in ((1000000, 1), (-1000000, 1), (1000000, 999), (-1000000, 999), (0, 1), (1, 1000), (-1, 1000),
                            (999999, 1000), (1, 1)):
            self.check(True, [put(machine, (1, 0, 1, 0), (top, bottom)) for machine in MACHINES])
        for top, bottom in ((1000001, 1), (-1000001, 1), (1000001, 1000), (-1000001, 1000), (10 ** 29, 1),
                            (-(10 ** 29), 1), (1, 1001), (-1, 1001), (1, 10 ** 29), (0, 2), (0, 0), (0, -1), (2, 2),
                            (2, 4), (-3, 6), (1000000, 1000), (1, 0), (1, -1), (-1, -2), (5, 0), (-2, 4),
                            (True, 1), (False, 1), (1, True), (0, True), (0, False)):
            self.check(False, [put(machine, (1, 0, 1, 0), (top, bottom)) for machine in MACHINES])
            self.check(False, [put(machine, (1, len(machine[1]) - 1, machine[0] - 1, 0), (top, bottom))
                               for machine in MACHINES])

    def test_sizes(self):
        for size in NO_SIZES + [3]:
            self.check(False, [put(COIN, (0,), size)])
        for size in (0, 1, 5, 6):
            self.check(False, [steps(size, 1), steps(size, 12)])
        for machine in MACHINES:
            for size in (0, 1, 2, 3, 4, 5, -2, True):
                if size != machine[0]:
                    self.check(False, [(size, machine[1])])

    def test_counts_of_rules(self):
        for size in (2, 3, 4):
            self.check(False, [(size, ()), steps(size, 13), steps(size, 14), steps(size, 400)])

    def test_counts_of_pairs(self):
        for machine in MACHINES:
            for state in (0, len(machine[1]) - 1):
                rule = machine[1][state]
                for other in (rule[:-1], rule + rule[:1], rule[:1], (), rule + rule):
                    self.check(False, [put(machine, (1, state), other)])

    def test_next_states(self):
        for machine in MACHINES:
            states = len(machine[1])
            for path in [path for path in integer_paths(machine) if len(path) == 4 and path[3] == 1]:
                self.check(True, [put(machine, path, state) for state in (0, states - 1)])
                for state in (-1, states, states + 1, -states, 12, 10 ** 29, False, True, None, "0", (0,), [0]):
                    self.check(False, [put(machine, path, state)])

    def test_wrong_kinds_at_every_place(self):
        for machine in MACHINES:
            self.check(False, misshaped(machine))
            self.check(False, unnumbered(machine))
            self.check(False, flagged(machine))
            self.check(False, relengthened(machine, but=[(1,)]))

    def test_no_machines_at_all(self):
        self.check(False, never_right() + [2])
        self.check(False, [(COIN,), (COIN, COIN), COIN[1], COIN[::-1], COIN + (0,), COIN[:1]])
        self.check(False, [nested("pair", depth) for depth in range(31)])
        for depth in range(30):
            self.check(False, [(2, nested("tuple", depth)), (2, (nested("pair", depth),)), (2, [nested("list", depth)])])

    def test_in_each_place_a_deep_thing(self):
        for path in ((0,), (1,), (1, 0), (1, 0, 0), (1, 0, 0, 0), (1, 0, 0, 0, 0), (1, 0, 0, 0, 1), (1, 0, 0, 1)):
            for kind in ("tuple", "pair", "list", "dict"):
                self.check(False, [put(TWO, path, nested(kind, 30 - len(path)))])


class IsRow(unittest.TestCase):
    def check(self, right, size, thing):
        with Unchanged(self, size, thing):
            self.assertIs(is_row(size, thing), right, (size, repr(thing)[:100]))
            self.assertIs(is_row(size, thing), right)

    def test_rows(self):
        for size in (2, 3, 4):
            for row in ((), (0,), (size - 1,), tuple(range(size)), (0, 0, 1) * 7):
                self.check(True, size, row)
            for many in (0, 1, 399, 400):
                self.check(True, size, (0,) * many)
                self.check(True, size, (size - 1,) * many)

    def test_too_long(self):
        for size in (2, 3, 4):
            for many in (401, 402, 800, 20000):
                self.check(False, size, (0,) * many)

    def test_wrong_letters(self):
        for size in (2, 3, 4):
            for letter in (size, size + 1, -1, 10 ** 29, True, False, None, "0", "", (0,), (), [0], {}):
                for row in ((letter,), (letter, 0), (0, letter), (0,) * 399 + (letter,), (0, 1) * 50 + (letter, 1)):
                    self.check(False, size, row)

    def test_no_rows_at_all(self):
        for size in (2, 3, 4):
            for thing in (0, True, None, "", "01", [], [0, 1], [0] * 400, {}, {0: 1}, nested("tuple", 30),
                          nested("list", 30), nested("dict", 30), nested("pair", 30)):
                self.check(False, size, thing)

    def test_no_size(self):
        for size in NO_SIZES:
            for thing in [(), (0,), (0,) * 401, [0], None, size] + never_right():
                with Unchanged(self, size, thing), self.assertRaises(NoSize):
                    is_row(size, thing)


class IsChances(unittest.TestCase):
    def check(self, right, size, thing):
        with Unchanged(self, size, thing):
            self.assertIs(is_chances(size, thing), right, (size, repr(thing)[:100]))
            self.assertIs(is_chances(size, thing), right)

    def test_chances(self):
        for size, many in CHANCES.items():
            for chances in many:
                for other in (2, 3, 4):
                    self.check(other == size, other, chances)

    def test_not_together_one(self):
        self.check(False, 2, ((1, 2), (1, 3)))
        self.check(False, 2, ((0, 1), (0, 1)))
        self.check(False, 2, ((1, 1), (1, 1)))
        self.check(False, 2, ((1, 2), (2, 3)))
        self.check(False, 2, ((2, 1), (0, 1)))
        self.check(False, 2, ((1, 10 ** 29), (10 ** 29 - 1, 10 ** 29 + 1)))
        self.check(False, 3, ((1, 3), (1, 3), (1, 4)))
        self.check(False, 4, ((1, 4), (1, 4), (1, 4), (1, 3)))
        self.check(False, 4, ((1, 3), (1, 3), (1, 3), (1, 3)))

    def test_below_zero(self):
        self.check(False, 2, ((-1, 1), (2, 1)))
        self.check(False, 2, ((3, 2), (-1, 2)))
        self.check(False, 3, ((1, 1), (1, 1), (-1, 1)))
        self.check(False, 4, ((1, 2), (1, 2), (1, 2), (-1, 2)))

    def test_no_fractions(self):
        self.check(False, 2, ((2, 4), (1, 2)))
        self.check(False, 2, ((1, 2), (2, 4)))
        self.check(False, 2, ((1, 1), (0, 2)))
        self.check(False, 2, ((0, 3), (1, 1)))
        self.check(False, 2, ((3, 3), (0, 1)))
        self.check(False, 2, ((-1, -2), (1, 2)))
        self.check(False, 2, ((1, 0), (1, 1)))
        self.check(False, 3, ((1, 3), (1, 3), (2, 6)))
        self.check(False, 2, ((True, 1), (0, 1)))
        self.check(False, 2, ((1, True), (0, 1)))
        self.check(False, 2, ((1, 1), (False, 1)))
        self.check(False, 2, (1, 0))
        self.check(False, 2, ((1, 2), 1))

    def test_wrong_kinds_at_every_place(self):
        for size, many in CHANCES.items():
            for chances in many:
                wrong = misshaped(chances) + unnumbered(chances) + flagged(chances) + relengthened(chances)
                for thing in wrong:
                    self.check(False, size, thing)

    def test_no_chances_at_all(self):
        for size in (2, 3, 4):
            for thing in never_right() + [2]:
                self.check(False, size, thing)

    def test_no_size(self):
        for size in NO_SIZES:
            for thing in [CHANCES[2][0], CHANCES[4][0], ((1, 1),), ((1, 5),) * 5, size] + never_right():
                with Unchanged(self, size, thing), self.assertRaises(NoSize):
                    is_chances(size, thing)


class Reached(unittest.TestCase):
    def test_all_reached(self):
        self.assertEqual(reached(COIN), (0,))
        self.assertEqual(reached(TWO), (0, 1))
        self.assertEqual(reached(FOUR), tuple(range(12)))

    def test_only_some(self):
        self.assertEqual(reached(SIX), (0, 1, 2))
        self.assertEqual(reached(steps(3, 12, 7)), (0, 7))
        self.assertEqual(reached(steps(4, 5, 4)), (0, 4))
        away = (2, ((((0, 1), 5), ((0, 1), 3)),) + (((((0, 1), 2), ((0, 1), 2))),) * 5)
        self.assertEqual(reached(away), (0, 2, 3, 5))

    def test_only_the_first(self):
        for size in (2, 3, 4):
            for count in (1, 2, 12):
                self.assertEqual(reached(steps(size, count)), (0,))

    def test_far_states_are_reached(self):
        down = (2, tuple((((0, 1), max(0, state - 1)), ((0, 1), 11 if state == 0 else state)) for state in range(12)))
        self.assertEqual(reached(down), tuple(range(12)))
        last = (2, tuple((((0, 1), state), ((0, 1), min(11, state + 1))) for state in range(12)))
        self.assertEqual(reached(last), tuple(range(12)))

    def test_as_by_following_all_letters(self):
        dice = random.Random(6)
        for _ in range(200):
            size = dice.randint(2, 4)
            count = dice.randint(1, 12)
            ends = [dice.sample(range(count), min(count, 3)) for _ in range(count)]
            machine = (size, tuple(tuple(((1, 2), dice.choice(ends[state])) for _ in range(size))
                                   for state in range(count)))
            now = {0}
            for _ in range(count):
                now |= {machine[1][state][letter][1] for state in now for letter in range(size)}
            with Unchanged(self, machine):
                self.assertEqual(reached(machine), tuple(sorted(now)))
                self.assertEqual(reached(machine), tuple(sorted(now)))

    def test_no_machine(self):
        for thing in never_right() + misshaped(TWO) + flagged(TWO) + [steps(2, 13), steps(5, 1), list(COIN)]:
            with Unchanged(self, thing), self.assertRaises(NoMachine):
                reached(thing)


if __name__ == "__main__":
    unittest.main()
