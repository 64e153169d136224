"""Point 12: guessing machines, judged for all rows."""

import random
import unittest
from fractions import Fraction

from keptmisses.errors import MissError, NoGuessing, NoMachine, NoRow, NotKept, OtherSize
from keptmisses.foes import is_broken
from keptmisses.guessers import all_guesses
from keptmisses.guessing import as_guessing, is_endless, is_guessing, told_by, worst
from keptmisses.heights import start
from keptmisses.machines import allowed, misses, reached
from reckoned import near
from samples import (CHANCES, COIN, FOUR, SIX, THREE, TWO, Unchanged, flagged, misshaped, nested, never_right, number,
                     pair, put, relengthened, steps, unnumbered)
from side_by_side import (allowing, check_over, greatest_of_all_rows, machines_of, missing, some_guessing)

EVEN = (2, ((((1, 2), (1, 2)), (0, 0)),))
SURE = (2, ((((1, 1), (0, 1)), (0, 0)),))
# It tells the letter that came last.
LAST = (2, ((((1, 1), (0, 1)), (0, 1)), (((0, 1), (1, 1)), (0, 1))))
WIDE = (4, tuple((CHANCES[4][state % 3], ((state + 1) % 12, 0, 11, state)) for state in range(12)))
TRIPLE = (3, ((((1, 2), (1, 3), (1, 6)), (0, 1, 1)), (((0, 1), (0, 1), (1, 1)), (1, 1, 0))))
GUESSINGS = [EVEN, SURE, LAST, WIDE, TRIPLE]
# State 0 lends 1/2, state 2 pays back; state 1 is not reached.
LOAN = (2, ((((0, 1), 2), ((0, 1), 2)), (((-5, 1), 1), ((0, 1), 0)), (((1, 2), 2), ((1, 1), 0))))
NO_ROWS = [None, True, 0, "", "01", [], [0, 1], {}, {0: 1}, (-1,), (4,), (0, 4), (True,), (0, False), (None,), ("0",),
           ((0,),), ([0],), (0,) * 401, (0,) * 400 + (9,), nested("tuple", 30), nested("list", 30), nested("dict", 30)]


def no_guessings():
    """Things that are no guessing machine."""
    wrong = []
    for guessing in (LAST, TRIPLE):
        wrong += misshaped(guessing) + flagged(guessing) + unnumbered(guessing)
        wrong += relengthened(guessing, but=[(1,)])
    return wrong + never_right() + [(2, ()), (2, EVEN[1] * 13), (1, ((((1, 1),), (0,)),)), COIN, TWO,
                                    (5, ((((1, 5),) * 5, (0,) * 5),)), MissError()]


class Judged(unittest.TestCase):
    def test_right(self):
        for guessing in GUESSINGS + [(2, EVEN[1] * 12), (4, WIDE[1][:11] + WIDE[1][:1])]:
            with Unchanged(self, guessing):
                self.assertIs(is_guessing(guessing), True)
        dice = random.Random(12)
        for size in (2, 3, 4):
            for count in range(1, 13):
                self.assertIs(is_guessing(some_guessing(dice, size, count)), True)

    def test_states_are_bounded(self):
        self.assertIs(is_guessing((2, EVEN[1] * 13)), False)
        self.assertIs(is_guessing((2, ())), False)
        for count in (1, 2, 11, 12):
            for state in (0, count - 1):
                self.assertIs(is_guessing((2, ((((1, 2), (1, 2)), (0, state)),) * count)), True)
            for state in (-1, count, count + 1, 10 ** 29):
                for nexts in ((0, state), (state, 0)):
                    self.assertIs(is_guessing((2, ((((1, 2), (1, 2)), nexts),) * count)), False)

    def test_chances_are_of_the_size_and_right(self):
        for size in (2, 3, 4):
            for other in (2, 3, 4):
                for chances in CHANCES[other]:
                    for count in (2, 3, 4):
                        self.assertIs(is_guessing((size, ((chances, (0,) * count),))), size == other == count)
        for chances in (((1, 2), (1, 3)), ((2, 4), (1, 2)), ((3, 2), (-1, 2)), ((1, 1), (1, 1)), ((0, 1), (0, 1)),
                        ((1, 1), (0, 2)), ((1, 0), (0, 1)), ((1, -1), (2, 1))):
            self.assertIs(is_guessing((2, ((chances, (0, 0)),))), False)
            self.assertIs(is_guessing(put(LAST, (1, 1, 0), chances)), False)

    def test_wrong(self):
        for thing in no_guessings():
            with Unchanged(self, thing):
                self.assertIs(is_guessing(thing), False, thing)


class Told(unittest.TestCase):
    def test_by_hand(self):
        one, other = ((1, 1), (0, 1)), ((0, 1), (1, 1))
        self.assertEqual(told_by(LAST, ()), ())
        self.assertEqual(told_by(LAST, (1,)), (one,))
        self.assertEqual(told_by(LAST, (1, 1, 0, 0)), (one, other, other, one))
        self.assertEqual(told_by(TRIPLE, (2, 2, 0)), (TRIPLE[1][0][0], TRIPLE[1][1][0], TRIPLE[1][0][0]))
        self.assertEqual(told_by(EVEN, (0,) * 400), (((1, 2), (1, 2)),) * 400)

    def test_letter_by_letter(self):
        dice = random.Random(121)
        for _ in range(40):
            size = dice.randint(2, 4)
            guessing = some_guessing(dice, size, dice.randint(1, 12))
            row = tuple(dice.randrange(size) for _ in range(dice.choice([0, 1, 7, 400])))
            with Unchanged(self, guessing, row):
                told = told_by(guessing, row)
            state = 0
            for letter, chances in zip(row, told):
                self.assertEqual(chances, guessing[1][state][0])
                state = guessing[1][state][1][letter]
            self.assertEqual(len(told), len(row))

    def test_wrong(self):
        for thing in no_guessings():
            for row in [(), (0,)] + NO_ROWS[:6]:
                with Unchanged(self, thing, row), self.assertRaises(NoGuessing):
                    told_by(thing, row)
        for guessing in GUESSINGS:
            size = guessing[0]
            for row in NO_ROWS + [(size,), (0, size), (0,) * 399 + (size,)]:
                with Unchanged(self, guessing, row), self.assertRaises(NoRow):
                    told_by(guessing, row)


class AsGuessing(unittest.TestCase):
    def test_by_hand(self):
        self.assertEqual(as_guessing(COIN), EVEN)
        even = ((1, 2), (1, 2))
        self.assertEqual(as_guessing(LOAN), (2, ((even, (1, 1)), (even, (1, 0)))))
        self.assertEqual(as_guessing((2, ((((0, 1), 0), ((1, 1), 0)),))), SURE)

    def test_as_the_guesser_of_each_row(self):
        dice = random.Random(122)
        for count in (1, 2, 3, 7, 12) * 4:
            size = dice.randint(2, 4)
            machine = near(dice, size, count, True)
            with Unchanged(self, machine):
                guessing = as_guessing(machine)
                self.assertEqual(as_guessing(machine), guessing)
            self.assertIs(is_guessing(guessing), True)
            states = reached(machine)
            self.assertEqual(len(guessing[1]), len(states))
            for place, state in enumerate(states):
                nexts = tuple(states.index(behind) for _, behind in machine[1][state])
                self.assertEqual(guessing[1][place][1], nexts)
            for many in (0, 1, 5, 60):
                row = tuple(dice.randrange(size) for _ in range(many))
                self.assertEqual(told_by(guessing, row), all_guesses(machine, row))

    def test_no_guesser_is_worse_than_start(self):
        dice = random.Random(123)
        for _ in range(60):
            machine = near(dice, dice.randint(2, 4), dice.randint(1, 12), True)
            word, most, row = worst(machine, as_guessing(machine))
            self.assertEqual((word, most), ("most", start(machine)))
            self.assertEqual(most == (0, 1), row == ())

    def test_wrong(self):
        wrong = misshaped(TWO) + flagged(TWO) + unnumbered(TWO) + relengthened(TWO, but=[(1,)])
        for thing in wrong + never_right() + [steps(2, 13), steps(2, 2, 2), EVEN]:
            with Unchanged(self, thing), self.assertRaises(NoMachine):
                as_guessing(thing)
        for machine in (THREE, FOUR, SIX, put(COIN, (1, 0, 0, 0), (499, 1000))):
            with Unchanged(self, machine), self.assertRaises(NotKept):
                as_guessing(machine)


class Worst(unittest.TestCase):
    def check(self, machine, guessing):
        with Unchanged(self, machine, guessing):
            told = worst(machine, guessing)
            self.assertEqual(worst(machine, guessing), told)
            check_over(self, told, missing(guessing), allowing(machine),
                       lambda thing: is_endless(machine, guessing, thing))
        return told

    def test_by_hand(self):
        self.assertEqual(worst(COIN, EVEN), ("most", (0, 1), ()))
        self.assertEqual(worst((2, ((((1, 1), 0), ((1, 1), 0)),)), SURE), ("most", (0, 1), ()))
        self.assertEqual(worst((2, ((((0, 1), 0), ((1, 1), 0)),)), SURE), ("most", (0, 1), ()))
        once = (2, ((((0, 1), 1), ((0, 1), 1)), (((1, 1), 1), ((1, 1), 1))))
        self.assertEqual(worst(once, SURE), ("most", (1, 1), (1,)))
        self.assertEqual(worst(once, EVEN), ("most", (1, 2), (0,)))
        self.assertEqual(worst(LOAN, as_guessing(LOAN)), ("most", (1, 2), (0,)))
        # Misses are more by 1/3 only behind two letters.
        later = (2, ((((1, 1), 1), ((1, 1), 1)), (((-1, 3), 2), ((-1, 3), 2)), (((1, 1), 2), ((1, 1), 2))))
        self.assertEqual(worst(later, SURE), ("most", (4, 3), (1, 1)))
        self.assertEqual(worst(later, EVEN), ("most", (1, 3), (0, 0)))

    def test_the_earliest_of_several(self):
        # 1 is lent to whoever says 1, behind any number of letters 0; and 1/2 twice behind letter 0.
        once = (2, ((((1, 1), 0), ((-1, 1), 1)), (((1, 1), 1), ((1, 1), 1))))
        self.assertEqual(worst(once, EVEN), ("most", (3, 2), (1,)))
        twice = (2, ((((-1, 2), 1), ((-3, 2), 2)), (((-1, 2), 2), ((-1, 2), 2)), (((1, 1), 2), ((1, 1), 2))))
        self.assertEqual(worst(twice, EVEN), ("most", (2, 1), (1,)))
        self.assertEqual(worst(put(twice, (1, 0, 1, 0), (-1, 2)), EVEN), ("most", (2, 1), (0, 0)))
        self.assertEqual(worst(put(twice, (1, 1, 0, 0), (-1, 4)), EVEN), ("most", (2, 1), (1,)))
        both = (2, ((((1, 1), 1), ((1, 2), 2)), (((-3, 1), 3), ((-3, 1), 3)), (((-7, 2), 3), ((-7, 2), 3)),
                    (((1, 1), 3), ((1, 1), 3))))
        self.assertEqual(worst(both, EVEN), ("most", (4, 1), (1, 0)))
        self.assertEqual(worst(put(both, (1, 2), (((-5, 2), 3), ((-3, 1), 3))), EVEN), ("most", (7, 2), (1, 1)))
        self.assertEqual(worst(put(both, (1, 2), (((-3, 1), 3), ((-3, 1), 3))), EVEN), ("most", (7, 2), (1, 0)))
        self.assertEqual(worst(put(both, (1, 2), (((-5, 2), 3), ((-5, 2), 3))), EVEN), ("most", (3, 1), (0, 0)))

    def test_a_ring_that_has_just_nothing_is_not_gone_round(self):
        ring = (2, ((((-1, 2), 1), ((1, 2), 0)), (((3, 2), 0), ((3, 2), 0))))
        self.assertEqual(worst(ring, EVEN), ("most", (1, 1), (0,)))

    def test_more_and_more(self):
        poor = (2, ((((1, 2), 0), ((499, 1000), 0)),))
        told = self.check(poor, EVEN)
        self.assertEqual(told[0], "endless")
        self.assertTrue(set(told[2]) >= {1})
        # Only behind three letters 1 the ring is come to, which misses 1 for each letter 1.
        path = (2, ((((1, 1), 0), ((1, 1), 1)), (((1, 1), 0), ((1, 1), 2)), (((1, 1), 0), ((1, 1), 3)),
                    (((1, 1), 4), ((1, 1), 0)), (((0, 1), 5), ((0, 1), 3)), (((1, 1), 0), ((1, 1), 0))))
        self.assertEqual(worst(path, EVEN), ("most", (0, 1), ()))
        less = put(path, (1, 4, 1, 0), (-1000, 1))
        told = self.check(less, EVEN)
        self.assertEqual(told[0], "endless")
        self.assertEqual(self.check(put(path, (1, 4, 1, 0), (-1, 1000)), EVEN)[0], "endless")
        self.assertEqual(self.check(put(path, (1, 4, 1, 0), (1, 1000)), EVEN), ("most", (0, 1), ()))

    def test_as_by_all_rows(self):
        dice = random.Random(124)
        for _ in range(60):
            machine = machines_of(dice, 2, 2)
            guessing = some_guessing(dice, 2, dice.randint(1, 2))
            told = self.check(machine, guessing)
            if told[0] == "most":
                most, row = greatest_of_all_rows(missing(guessing), allowing(machine), 6)
                self.assertEqual(told, ("most", pair(most), row))

    def test_machines_of_all_counts(self):
        dice = random.Random(125)
        told = {"most": 0, "endless": 0}
        for turn in range(160):
            size = dice.randint(2, 4)
            machine = machines_of(dice, size, 5)
            guessing = some_guessing(dice, size, dice.randint(1, 4))
            if turn % 2 == 0 and start(machine) is not None:
                guessing = as_guessing(machine)
            word, *_ = self.check(machine, guessing)
            told[word] += 1
        self.assertGreater(min(told.values()), 20)

    def test_twelve_states_each(self):
        dice = random.Random(126)
        for turn in range(4):
            size = dice.randint(2, 3)
            machine = near(dice, size, 12, True)
            guessing = some_guessing(dice, size, 12) if turn % 2 == 0 else as_guessing(machine)
            self.check(machine, guessing)
        # Eleven letters 0 lead to the only one that is lent; each other letter leads to the begin.
        loan = (2, tuple((((1, 1), state + 1), ((1, 1), 0)) for state in range(11)) + ((((1, 1), 0), ((-5, 1), 0)),))
        self.assertEqual(worst(loan, (2, SURE[1] * 12))[0], "most")
        far = (2, tuple((((0, 1), state + 1), ((6, 1), 0)) for state in range(11)) + ((((1, 1), 11), ((1, 1), 11)),))
        self.assertEqual(worst(far, EVEN), ("most", (11, 2), (0,) * 11))

    def test_a_long_worst_row(self):
        # Rings of 12 and 11 states are gone round together with 132 letters. The one gives 3/11, the other takes 1/4;
        # most is taken just ahead of the last letter, behind which both are at their begin again.
        slow = (2, tuple((((1, 2), (state + 1) % 12),) * 2 for state in range(11)) + ((((17, 22), 0),) * 2,))
        quick = [(((1, 2), (1, 2)), ((state + 1) % 11,) * 2) for state in range(11)]
        quick[9] = (((1, 4), (3, 4)), (10, 10))
        quick = (2, tuple(quick))
        self.assertEqual(self.check(slow, quick), ("most", (3, 11), (0,) * 131))
        other = put(quick, (1, 9, 0), ((3, 4), (1, 4)))
        self.assertEqual(worst(slow, other), ("most", (3, 11), tuple(int(place % 11 == 9) for place in range(131))))
        self.assertEqual(self.check(put(slow, (1, 11, 0, 0), (27, 35)), quick)[0], "endless")
        self.assertEqual(self.check(put(slow, (1, 11), (((7, 9), 0),) * 2), quick), ("most", (1, 4), (0,) * 10))

    def test_long_numbers(self):
        bottoms = [10 ** 29 - place for place in range(24)]
        rules = tuple((((1, bottoms[state]), (bottoms[state] - 1, bottoms[state])), ((state + 1) % 12, state))
                      for state in range(12))
        machine = (2, tuple((((999, 1000), (state + 1) % 12), ((1, 997), state)) for state in range(12)))
        self.assertIs(is_guessing((2, rules)), True)
        told = self.check(machine, (2, rules))
        self.assertEqual(told[0], "endless")
        enough = (2, tuple((((1, 1), (state + 1) % 12), ((1, 997), state)) for state in range(12)))
        self.assertEqual(worst(enough, (2, rules)), ("most", (0, 1), ()))
        lent = put(enough, (1, 11, 0, 0), (-1, 1))
        ready = put(lent, (1, 0, 0, 0), (3, 1))
        told = self.check(ready, (2, rules))
        self.assertEqual(told[0], "most")

    def test_a_promise_is_kept_exactly_with_the_number(self):
        dice = random.Random(127)
        for _ in range(60):
            size = dice.randint(2, 4)
            machine = machines_of(dice, size, 4)
            guessing = some_guessing(dice, size, dice.randint(1, 3))
            word, more, row = worst(machine, guessing)
            tell = (lambda guessing: lambda row: told_by(guessing, row + (0,))[-1])(guessing)
            if word == "most":
                least = start(machine)
                self.assertIsNotNone(least)
                self.assertLessEqual(number(least), number(more))
                self.assertEqual(number(misses(row, told_by(guessing, row))) - number(allowed(machine, row)), number(more))
                self.assertIs(is_broken(machine, more, tell, ("broken", row)), False)
                self.assertIs(is_broken(machine, pair(number(more) - Fraction(1, 99)), tell, ("broken", row)), True)
                for _ in range(30):
                    other = tuple(dice.randrange(size) for _ in range(dice.randint(0, 30)))
                    self.assertIs(is_broken(machine, more, tell, ("broken", other)), False)
            else:
                times = (400 - len(more)) // len(row)
                amounts = [number(misses(long, told_by(guessing, long))) - number(allowed(machine, long))
                           for long in [more + row * many for many in range(min(times, 5) + 1)]]
                self.assertEqual(amounts, sorted(set(amounts)))

    def test_wrong(self):
        wrong = misshaped(TWO) + flagged(TWO) + unnumbered(TWO) + relengthened(TWO, but=[(1,)])
        for thing in wrong + never_right() + [steps(2, 13), steps(2, 2, 2), EVEN]:
            for guessing in (EVEN, WIDE, None, COIN, (2, ())):
                with Unchanged(self, thing, guessing), self.assertRaises(NoMachine):
                    worst(thing, guessing)
                with Unchanged(self, thing, guessing), self.assertRaises(NoMachine):
                    is_endless(thing, guessing, ("endless", (), (0,)))
        for thing in no_guessings():
            for machine in (TWO, THREE):
                with Unchanged(self, thing, machine), self.assertRaises(NoGuessing):
                    worst(machine, thing)
                with Unchanged(self, thing, machine), self.assertRaises(NoGuessing):
                    is_endless(machine, thing, None)
        for machine in (COIN, TWO, THREE, FOUR):
            for guessing in GUESSINGS:
                if machine[0] != guessing[0]:
                    with Unchanged(self, machine, guessing), self.assertRaises(OtherSize):
                        worst(machine, guessing)
                    with Unchanged(self, machine, guessing), self.assertRaises(OtherSize):
                        is_endless(machine, guessing, ("endless", (), (0,)))


class Endless(unittest.TestCase):
    # Letter 1 leads to a state in which letter 0 costs nothing and is allowed less than it misses.
    MACHINE = (2, ((((1, 1), 0), ((1, 1), 1)), (((0, 1), 1), ((1, 1), 0))))

    def check(self, thing, flag):
        with Unchanged(self, thing):
            self.assertIs(is_endless(self.MACHINE, EVEN, thing), flag, thing)

    def test_right(self):
        for ahead, ring in (((1,), (0,)), ((1,), (0, 0)), ((0, 1), (0,)), ((1, 1, 1), (0,)), ((), (1, 0, 0, 0, 1)),
                            ((1,), (0,) * 400), ((0,) * 399 + (1,), (0,)), ((), (1,) + (0,) * 398 + (1,)),
                            ((0,), (0, 0, 1, 0, 0, 0, 0, 0, 1))):
            self.check(("endless", ahead, ring), True)

    def test_no_more_than_allowed(self):
        for ahead, ring in (((), (0,)), ((), (1, 1)), ((), (1, 0, 1)), ((), (1, 0, 0, 1)), ((1,), (1, 1)),
                            ((1,), (1, 0, 0, 1)),
                            ((0,), (0, 0, 1, 0, 0, 0, 0, 1))):
            self.check(("endless", ahead, ring), False)

    def test_no_ring(self):
        for ahead, ring in (((1,), ()), ((), ()), ((), (1,)), ((), (1, 0)), ((1,), (0, 1)), ((1,), (0, 0, 1))):
            self.check(("endless", ahead, ring), False)

    def test_both_are_led_back(self):
        one = (2, ((((0, 1), 0), ((0, 1), 0)),))
        two = (2, ((((1, 2), (1, 2)), (1, 0)), (((1, 2), (1, 2)), (0, 1))))
        self.assertIs(is_endless(one, two, ("endless", (), (0,))), False)
        self.assertIs(is_endless(one, two, ("endless", (), (0, 0))), True)
        self.assertIs(is_endless(one, two, ("endless", (0, 1), (1,))), True)
        swap = (2, ((((0, 1), 1), ((0, 1), 1)), (((0, 1), 0), ((0, 1), 0))))
        self.assertIs(is_endless(swap, EVEN, ("endless", (), (0,))), False)
        self.assertIs(is_endless(swap, EVEN, ("endless", (), (0, 1))), True)

    def test_no_such_triple(self):
        right = ("endless", (1,), (0,))
        self.check(right, True)
        for thing in misshaped(right) + never_right() + [put(right, (0,), word) for word in
                                                         ("most", "Endless", "", None, 0, True, ("endless",))]:
            self.check(thing, False)
        for row in NO_ROWS + [(2,), (0, 2), (3,)]:
            self.check(("endless", row, (0,)), False)
            self.check(("endless", (1,), row), False)
        self.check(("endless", (1,), (0,) * 401), False)
        self.check(("endless", (0,) * 400 + (1,), (0,)), False)
        self.check(("endless", (True,), (0,)), False)
        self.check(("endless", (1,), (False,)), False)
        for thing in (right[:2], right + ((0,),), list(right), {"endless": right}, ("most", (1, 2), (0,)), right[1:]):
            self.check(thing, False)

    def test_it_is_judged_even_where_another_triple_is_told(self):
        self.assertIs(is_endless(COIN, EVEN, ("endless", (), (0,))), False)
        self.assertIs(is_endless(COIN, EVEN, worst(COIN, EVEN)), False)


if __name__ == "__main__":
    unittest.main()
