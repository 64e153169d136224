"""Point 11: foes, who break whoever promises to begin with less than the start."""

import random
import unittest
from fractions import Fraction

from keptmisses.chancers import most_gain
from keptmisses.errors import Held, MissError, NoFraction, NoMachine, TooMany
from keptmisses.foes import foe, is_broken
from keptmisses.guessers import guess
from keptmisses.heights import kept, start
from keptmisses.machines import is_chances, is_machine, is_row
from reckoned import (far, halves, more_allowed, near, small, some_machine, sure_within, wide)
from samples import (CHANCES, COIN, FOUR, MACHINES, SIX, THREE, TWO, Unchanged, flagged, misshaped, nested, never_right,
                     number, pair, put, relengthened, steps, unnumbered)

# 1/2 is lent once, then there is enough.
LOAN = (2, ((((0, 1), 1), ((0, 1), 1)), (((1, 2), 1), ((1, 2), 1))))
POOR = put(COIN, (1, 0, 0, 0), (499, 1000))
NO_CHANCES = [None, True, 0, "none", [], {}, (), ((1, 1),), [(1, 2), (1, 2)], ((1, 2), (1, 3)), ((2, 4), (1, 2)),
              ((-1, 1), (2, 1)), ((1, 5),) * 5, ((True, 1), (0, 1)), ([1, 2], [1, 2]), nested("tuple", 30),
              nested("list", 30), MissError()]


class OwnError(Exception):
    """What a function raises by itself."""


def even(size):
    return lambda row: ((1, size),) * size


def sure(size, letter):
    return lambda row: tuple((1, 1) if other == letter else (0, 1) for other in range(size))


def by_row(size):
    """Chances that go by the row, alike for alike rows."""
    def function(row):
        weights = [1 + (31 * len(row) + 7 * sum(row[-5:]) + letter * letter) % 5 for letter in range(size)]
        return tuple(pair(Fraction(weight, sum(weights))) for weight in weights)
    return function


def least_often(size):
    """Sure of the letter that came least often."""
    return lambda row: sure(size, min(range(size), key=row.count))(row)


def long_bottoms(size):
    """Chances of unlike long bottoms."""
    def function(row):
        bottom = 10 ** 29 - len(row)
        return ((bottom - size + 1, bottom),) + ((1, bottom),) * (size - 1)
    return function


def guesser_of(machine):
    """The chances of the guesser of a machine with as much more allowed as it needs."""
    more = Fraction(-(-number(most_gain(machine)) // 1))
    rich = machine if kept(machine) else more_allowed(machine, more)
    return (lambda row: guess(rich, row)) if is_machine(rich) else even(machine[0])


def none_at(many, told, function):
    """Tells something else ahead of the letter behind so many."""
    return lambda row: told if len(row) == many else function(row)


def missed_by(function, row):
    """What a row misses by what a function tells."""
    return sum([1 - number(function(row[:place])[letter]) for place, letter in enumerate(row)])


def allowed_for(machine, row):
    """What a row is allowed, as Python's own fraction."""
    state = 0
    whole = Fraction(0)
    for letter in row:
        allowance, state = machine[1][state][letter]
        whole += number(allowance)
    return whole


def holds(machine, begin, function, thing):
    """Whether a pair of a right word and a right row holds."""
    word, row = thing
    if word == "none":
        return not is_chances(machine[0], function(row))
    if not all(is_chances(machine[0], function(row[:place])) for place in range(len(row))):
        return False
    return missed_by(function, row) > allowed_for(machine, row) + number(begin)


class Asked:
    """A function that keeps what it was asked."""

    def __init__(self, function):
        self.function = function
        self.rows = []

    def __call__(self, row):
        self.rows.append(row)
        return self.function(row)


class Foes(unittest.TestCase):
    def functions(self, machine):
        size = machine[0]
        return [even(size), sure(size, 0), sure(size, size - 1), by_row(size), least_often(size), guesser_of(machine)]

    def check(self, machine, begin, function):
        """The foe's pair is right by the words of the point, and by is_broken."""
        asked = Asked(function)
        with Unchanged(self, machine, begin):
            told = foe(machine, begin, asked)
        self.assertIsInstance(told, tuple)
        self.assertEqual(len(told), 2)
        self.assertIn(told[0], ("none", "broken"))
        self.assertTrue(is_row(machine[0], told[1]))
        for row in asked.rows:
            self.assertTrue(is_row(machine[0], row))
        self.assertTrue(holds(machine, begin, function, told))
        with Unchanged(self, machine, begin, told):
            self.assertIs(is_broken(machine, begin, function, told), True)
        self.assertEqual(foe(machine, begin, function), told)
        return told

    def test_by_hand(self):
        self.assertEqual(self.check(LOAN, (499, 1000), even(2))[0], "broken")
        self.assertEqual(self.check(LOAN, (499, 1000), sure(2, 0)), ("broken", (1,)))
        self.assertEqual(self.check(LOAN, (0, 1), sure(2, 1)), ("broken", (0,)))
        self.assertEqual(self.check(LOAN, (0, 1), lambda row: None), ("none", ()))
        one = (3, ((((0, 1), 0), ((5, 1), 0), ((5, 1), 0)),))
        self.assertIs(kept(one), True)
        with self.assertRaises(Held):
            foe(one, (0, 1), even(3))

    def test_below_zero_the_empty_row(self):
        for machine in MACHINES + [LOAN, POOR]:
            for begin in ((-1, 1), (-1, 10 ** 29), (-(10 ** 29), 1)):
                for function in (even(machine[0]), lambda row: None):
                    told = self.check(machine, begin, function)
                    self.assertIn(told, (("broken", ()), ("none", ())))
                self.assertIs(is_broken(machine, begin, even(machine[0]), ("broken", ())), True)

    def test_less_than_the_start_by_much_and_by_little(self):
        dice = random.Random(11)
        done = 0
        while done < 40:
            size = dice.randint(2, 4)
            count = dice.randint(1, 12)
            machine = (near(dice, size, count, True) if dice.random() < 0.6
                       else some_machine(dice, size, count, dice.choice([small, halves])))
            least = start(machine)
            if least is None or least == (0, 1):
                continue
            done += 1
            within = sure_within(machine, 400)[-1] if done % 8 == 0 else sure_within(machine, 40)[-1]
            for part in (Fraction(-1, 3), Fraction(0), Fraction(1, 2), Fraction(999, 1000), 1 - Fraction(1, 10 ** 12)):
                if part * number(least) < within:
                    for function in self.functions(machine):
                        self.assertEqual(self.check(machine, pair(part * number(least)), function)[0], "broken")
            for little in (Fraction(1, 10 ** 3), Fraction(1, 10 ** 20)):
                if number(least) - little < within:
                    self.check(machine, pair(number(least) - little), dice.choice(self.functions(machine)))

    def test_machines_that_cannot_be_kept(self):
        dice = random.Random(111)
        done = 0
        for machine in [THREE, FOUR, SIX] + [some_machine(dice, dice.randint(2, 4), dice.randint(1, 12), draw)
                                             for draw in (small, halves, wide, far) for _ in range(20)]:
            if kept(machine):
                continue
            done += 1
            within = sure_within(machine, 25)[-1]
            for begin in (Fraction(-1), Fraction(0), within / 2, within - Fraction(1, 10 ** 20)):
                if begin < within:
                    self.assertEqual(self.check(machine, pair(begin), dice.choice(self.functions(machine)))[0], "broken")
        self.assertGreater(done, 30)

    def test_many_letters(self):
        # Each 1000 letters gain 1/2 at least, so no row of few letters will do.
        within = sure_within(POOR, 400)[-1]
        self.assertEqual(within, Fraction(1, 2000) * 400)
        for function in self.functions(POOR) + [long_bottoms(2)]:
            word, row = self.check(POOR, pair(within - Fraction(1, 10 ** 9)), function)
            self.assertEqual(word, "broken")
            self.assertLessEqual(len(row), 400)
        self.assertEqual(self.check(POOR, (199, 1000), long_bottoms(2))[0], "broken")

    def test_no_chances_at_the_first_letter_or_later(self):
        dice = random.Random(112)
        for machine, begin in ((POOR, (1, 10)), (LOAN, (1, 4)), (FOUR, (100, 1)), (THREE, (3, 1)), (SIX, (2, 1))):
            size = machine[0]
            for told in NO_CHANCES + [chances[0] for other, chances in CHANCES.items() if other != size]:
                self.assertEqual(self.check(machine, begin, lambda row: told), ("none", ()))
                for many in (1, 2, 5):
                    function = none_at(many, told, dice.choice([even(size), by_row(size), sure(size, 0)]))
                    word, row = self.check(machine, begin, function)
                    if word == "none":
                        self.assertEqual(len(row), many)
                    self.assertLessEqual(len(row), many)

    def test_errors_of_the_function_go_on(self):
        def raising(kind, many, function):
            def asked(row):
                if len(row) == many:
                    raise kind()
                return function(row)
            return asked
        for kind in (OwnError, KeyError, ValueError, ZeroDivisionError, MissError, NoFraction, Held):
            for machine, begin in ((POOR, (1, 10)), (FOUR, (100, 1)), (SIX, (7, 1))):
                for many in (0, 1, 4):
                    with self.assertRaises(kind) as held:
                        foe(machine, begin, raising(kind, many, even(machine[0])))
                    self.assertIs(type(held.exception), kind)
                    with self.assertRaises(kind):
                        is_broken(machine, begin, raising(kind, many, even(machine[0])), ("none", (0,) * many))
                    with self.assertRaises(kind):
                        is_broken(machine, begin, raising(kind, many, even(machine[0])), ("broken", (0,) * (many + 1)))

    def test_too_many_exactly_where_nobody_can_be_sure(self):
        dice = random.Random(113)
        machines = [POOR, put(POOR, (1, 0, 1, 0), (1, 1)), SIX]
        machines += [some_machine(dice, size, dice.randint(1, 4), draw) for size in (2, 3, 4)
                     for draw in (small, halves, wide)]
        many = 0
        for machine in machines:
            within = sure_within(machine, 400)[-1]
            least = start(machine)
            for begin in (within - Fraction(1, 10 ** 15), within, within + Fraction(1, 10 ** 15), within + 1, 10 ** 9 * within):
                begin = pair(begin)
                asked = Asked(even(machine[0]))
                if number(begin) < within:
                    self.assertEqual(self.check(machine, begin, asked)[0], "broken")
                elif least is not None and number(begin) >= number(least):
                    with self.assertRaises(Held):
                        foe(machine, begin, asked)
                    self.assertEqual(asked.rows, [])
                else:
                    many += 1
                    with Unchanged(self, machine, begin), self.assertRaises(TooMany) as held:
                        foe(machine, begin, asked)
                    self.assertEqual(held.exception.most, 400)
                    self.assertEqual(asked.rows, [])
        self.assertGreater(many, 8)

    def test_too_many_though_less_than_the_start(self):
        # Only eleven times letter 0 in a row lead to what is lent, and each letter on the way is allowed just enough.
        half = (1, 2)
        away = (2, tuple(((half, state + 1), (half, 0)) for state in range(10)) +
                ((((-5, 2), 11), (half, 0)), ((half, 11), (half, 11))))
        self.assertEqual(start(away), (3, 1))
        within = sure_within(away, 400)[-1]
        self.assertLess(within, 2)
        for begin in (within, within + Fraction(1, 10 ** 9), Fraction(5, 2), 3 - Fraction(1, 10 ** 9)):
            asked = Asked(even(2))
            with self.assertRaises(TooMany) as held:
                foe(away, pair(begin), asked)
            self.assertEqual((held.exception.most, asked.rows), (400, []))
        for function in self.functions(away):
            self.check(away, pair(within - Fraction(1, 10 ** 9)), function)

    def test_held_exactly_from_the_start_on(self):
        dice = random.Random(114)
        done = 0
        while done < 25:
            machine = some_machine(dice, dice.randint(2, 4), dice.randint(1, 12), dice.choice([small, halves]))
            if done % 2:
                machine = near(dice, dice.randint(2, 4), dice.randint(1, 12), True)
            least = start(machine)
            if least is None:
                continue
            done += 1
            for more in (0, Fraction(1, 10 ** 20), 1, 10 ** 20):
                asked = Asked(lambda row: None)
                with Unchanged(self, machine), self.assertRaises(Held):
                    foe(machine, pair(number(least) + more), asked)
                self.assertEqual(asked.rows, [])
            begin = pair(number(least) - Fraction(1, 10 ** 20))
            if number(begin) < sure_within(machine, 30)[-1]:
                self.check(machine, begin, even(machine[0]))
        with self.assertRaises(Held):
            foe(COIN, (0, 1), even(2))
        with self.assertRaises(Held):
            foe(LOAN, (1, 2), even(2))

    def test_the_order_of_the_errors(self):
        wrong = misshaped(TWO) + flagged(TWO) + unnumbered(TWO) + relengthened(TWO, but=[(1,)]) + never_right()
        for thing in wrong + [steps(2, 13), steps(2, 2, 2), steps(5, 1), list(COIN), (2, ())]:
            for begin in ((0, 1), (2, 4), None, nested("tuple", 30)):
                with Unchanged(self, thing, begin), self.assertRaises(NoMachine):
                    foe(thing, begin, even(2))
                with Unchanged(self, thing, begin), self.assertRaises(NoMachine):
                    is_broken(thing, begin, even(2), ("broken", ()))
        halved = [(2, 4), (0, 2), (0, 0), (1, 0), (1, -1), (-1, -2), (3, 3), (True, 1), (1, True), (False, 1), (0, True),
                  1, None, (1,), (1, 2, 3), [1, 2], ("1", 2), "12", {1: 2}, (None, 1), ((1, 2), 1)]
        for begin in halved + [thing for thing in never_right() if thing != (0, 1)]:
            for machine in (COIN, POOR, LOAN, THREE):
                asked = Asked(even(machine[0]))
                with Unchanged(self, machine, begin), self.assertRaises(NoFraction):
                    foe(machine, begin, asked)
                for thing in (("broken", ()), ("none", ()), None):
                    with Unchanged(self, machine, begin), self.assertRaises(NoFraction):
                        is_broken(machine, begin, asked, thing)
                self.assertEqual(asked.rows, [])


class IsBroken(unittest.TestCase):
    def check(self, right, machine, begin, function, thing):
        with Unchanged(self, machine, begin, thing):
            self.assertIs(is_broken(machine, begin, function, thing), right, repr(thing)[:200])
            self.assertIs(is_broken(machine, begin, function, thing), right)

    def test_by_hand(self):
        self.check(True, LOAN, (499, 1000), even(2), ("broken", (0,)))
        self.check(True, LOAN, (499, 1000), even(2), ("broken", (1, 0, 1)))
        self.check(False, LOAN, (1, 2), even(2), ("broken", (0,)))
        self.check(True, LOAN, (1, 2), sure(2, 0), ("broken", (1,)))
        self.check(False, LOAN, (1, 1), sure(2, 0), ("broken", (1,)))
        self.check(True, LOAN, (1, 1), sure(2, 0), ("broken", (1, 1)))
        self.check(False, LOAN, (0, 1), even(2), ("broken", ()))
        self.check(True, LOAN, (-1, 1000), even(2), ("broken", ()))
        self.check(False, LOAN, (0, 1), even(2), ("none", ()))
        self.check(False, LOAN, (0, 1), even(2), ("none", (0,)))
        self.check(True, LOAN, (0, 1), even(3), ("none", ()))

    def test_where_the_promise_can_be_held(self):
        self.check(True, COIN, (5, 1), sure(2, 0), ("broken", (1,) * 11))
        self.check(False, COIN, (5, 1), sure(2, 0), ("broken", (1,) * 10))
        self.check(True, COIN, (5, 1), lambda row: None, ("none", ()))
        self.check(False, COIN, (5, 1), even(2), ("broken", (0,) * 400))

    def test_a_row_behind_which_no_chances_are_told(self):
        for told in NO_CHANCES:
            function = none_at(3, told, even(2))
            self.check(True, POOR, (0, 1), function, ("none", (0, 1, 1)))
            self.check(True, COIN, (0, 1), function, ("none", (1, 1, 1)))
            for row in ((), (0,), (0, 1), (0, 1, 1, 0), (0,) * 400):
                self.check(False, POOR, (0, 1), function, ("none", row))
            self.check(True, POOR, (0, 1), function, ("broken", (0, 0, 0)))
            self.check(False, POOR, (0, 1), function, ("broken", (0, 0, 0, 0)))
            self.check(False, POOR, (0, 1), lambda row: told, ("broken", (0,)))
            self.check(True, POOR, (-1, 1), lambda row: told, ("broken", ()))
            # What is told behind the row alone counts.
            self.check(True, POOR, (0, 1), lambda row: told, ("none", (0, 1)))
            self.check(True, POOR, (0, 1), lambda row: told, ("none", (0,) * 400))

    def test_more_than_allowed_and_not_just_as_much(self):
        dice = random.Random(115)
        for _ in range(80):
            machine = some_machine(dice, dice.randint(2, 4), dice.randint(1, 6), dice.choice([small, wide]))
            size = machine[0]
            row = tuple(dice.randrange(size) for _ in range(dice.randint(0, 12)))
            for function in (even(size), by_row(size), sure(size, 0), least_often(size)):
                short = missed_by(function, row) - allowed_for(machine, row)
                self.check(False, machine, pair(short), function, ("broken", row))
                self.check(False, machine, pair(short + Fraction(1, 10 ** 9)), function, ("broken", row))
                self.check(True, machine, pair(short - Fraction(1, 10 ** 9)), function, ("broken", row))

    def test_long_rows(self):
        self.check(True, COIN, (199, 1), sure(2, 0), ("broken", (1,) * 400))
        self.check(False, COIN, (200, 1), sure(2, 0), ("broken", (1,) * 400))
        self.check(False, COIN, (0, 1), sure(2, 0), ("broken", (1,) * 401))
        self.check(False, COIN, (0, 1), lambda row: None, ("none", (1,) * 401))

    def test_another_word_or_row(self):
        for machine, begin in ((POOR, (1, 10)), (FOUR, (100, 1)), (LOAN, (1, 4))):
            size = machine[0]
            for function in (even(size), by_row(size), none_at(2, None, even(size)), none_at(0, None, even(size))):
                right = foe(machine, begin, function)
                self.check(True, machine, begin, function, right)
                word, row = right
                other = "broken" if word == "none" else "none"
                self.check(holds(machine, begin, function, (other, row)), machine, begin, function, (other, row))
                for word in ("", "Broken", "BROKEN", "nones", "broken ", "none\n", "endless", "most", None, True, 0, (),
                             [], ["none"], ("none",), {}, {"none": 0}, MissError(), nested("tuple", 29)):
                    self.check(False, machine, begin, function, (word, row))
                for bad in (list(row), (row,), None, 0, "", "01", {}, row + (size,), row + (-1,), row + (True,),
                            (False,) + row, row + ("0",), row + (None,), row + ((0,),), row + (0,) * 401,
                            nested("tuple", 29), nested("list", 29)):
                    self.check(False, machine, begin, function, (right[0], bad))
                for place in range(min(4, len(row))):
                    for letter in range(size):
                        changed = (right[0], put(row, (place,), letter))
                        self.check(holds(machine, begin, function, changed), machine, begin, function, changed)
                for many in range(min(len(row), 6)):
                    changed = (right[0], row[:many])
                    self.check(holds(machine, begin, function, changed), machine, begin, function, changed)
                for thing in (list(right), right[:1], right + (0,), right[::-1], (right,), {right[0]: row}, row):
                    self.check(False, machine, begin, function, thing)

    def test_wrong_things_are_no_reason_to_ask(self):
        for thing in never_right() + [2, ("broken",), ("none",), ("most", (1, 2), ()), "broken", "none"]:
            for machine in (COIN, POOR, FOUR):
                asked = Asked(lambda row: None)
                self.check(False, machine, (-5, 1), asked, thing)
                self.assertEqual(asked.rows, [])


if __name__ == "__main__":
    unittest.main()
