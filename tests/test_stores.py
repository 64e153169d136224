"""Point 19: stores, which guess on behind falls."""

import random
import unittest
from fractions import Fraction

from keptmisses.disks import Disk, lines, noted, opened, rest, rewritten, standing
from keptmisses.errors import Down, MissError, NoDeed, NoMachine, NoNumber, NotDown, NotKept
from keptmisses.guessers import Guesser, all_guesses, guess
from keptmisses.guessing import as_guessing
from keptmisses.heights import kept, start
from keptmisses.machines import allowed, misses
from keptmisses.stores import Store, is_deed
from reckoned import near
from samples import (COIN, FOUR, SIX, THREE, TWO, Unchanged, flagged, misshaped, nested, never_right, number, pair, put,
                     relengthened, steps, unnumbered)

# 1/2 is lent at first, and paid back by letter 1 alone.
LOAN = (2, ((((0, 1), 2), ((0, 1), 2)), (((-5, 1), 1), ((0, 1), 0)), (((1, 2), 2), ((1, 1), 0))))
SURE = (2, ((((0, 1), 0), ((1, 1), 0)),))
FIRM = (3, ((((2, 3), 0), ((2, 3), 1), ((2, 3), 0)), (((1, 1), 1), ((1, 1), 0), ((0, 1), 0))))
EVEN = (3, ((((2, 3), 0),) * 3,))
POOR = put(COIN, (1, 0, 0, 0), (499, 1000))
NO_NUMBERS = [-1, -10 ** 29, True, False, "0", "", (), (0,), [], [0], {}, {0: 0}, MissError(), nested("tuple", 30)]


def seen(store):
    """All that a store tells."""
    disk = store.disk()
    return (store.machine(), store.ages(), store.chances(), store.misses(), store.allowed(), store.up(), disk.area(0),
            disk.area(1))


def items_of(ages):
    """The items of ages in which letters were read, and of the last one."""
    items = []
    for place, (machine, row) in enumerate(ages):
        if row or place == len(ages) - 1:
            items.append(("machine", machine))
            items += [("row", row)] if row else []
    return items


def brief(ages):
    return [age for age in ages[:-1] if age[1]] + ages[-1:]


def behind(ages, deed):
    """The ages behind a deed."""
    word, what = deed
    return ages + [(what, ())] if word == "change" else ages[:-1] + [(ages[-1][0], ages[-1][1] + what)]


def kept_machine(dice, size):
    return near(dice, size, dice.randint(1, 12), True)


class Checked(unittest.TestCase):
    def check(self, store, ages, up=True):
        """A store tells just these ages, and what follows from them."""
        missed = Fraction(0)
        most = Fraction(0)
        for machine, row in ages:
            guesser = Guesser(machine)
            for letter in row:
                guesser.read(letter)
            missed += number(guesser.misses())
            most += number(guesser.misses()) + number(guesser.spare())
        for _ in range(2):
            told = store.ages()
            self.assertIsInstance(told, list)
            self.assertEqual(told, ages)
            told.append(None)
            self.assertEqual(store.machine(), ages[-1][0])
            self.assertEqual(store.chances(), guesser.chances())
            self.assertEqual(store.misses(), pair(missed))
            self.assertEqual(store.allowed(), pair(most))
            self.assertIs(store.up(), up)
        self.assertLessEqual(missed, most)
        told = []
        for word, thing in opened(store.disk()):
            told = told + [(thing, ())] if word == "machine" else told[:-1] + [(told[-1][0], told[-1][1] + thing)]
        self.assertEqual(told, ages)


class Begun(Checked):
    def test_by_hand(self):
        for machine in (COIN, LOAN, SURE, FIRM, EVEN):
            with Unchanged(self, machine):
                store = Store(machine)
            self.check(store, [(machine, ())])
            self.assertEqual(store.misses(), (0, 1))
            self.assertEqual(store.allowed(), start(machine))
            self.assertEqual(store.chances(), guess(machine, ()))
            disk = Disk()
            opened(disk)
            noted(disk, ("machine", machine), None)
            self.assertEqual(store.disk(), disk)

    def test_wrong(self):
        wrong = misshaped(TWO) + flagged(TWO) + unnumbered(TWO) + relengthened(TWO, but=[(1,)])
        for thing in wrong + never_right() + [steps(2, 13), steps(2, 2, 2), list(COIN), as_guessing(COIN), Store(COIN)]:
            with Unchanged(self, thing), self.assertRaises(NoMachine):
                Store(thing)
        for machine in (THREE, FOUR, SIX, POOR):
            with Unchanged(self, machine), self.assertRaises(NotKept):
                Store(machine)


class Deeds(Checked):
    def test_by_hand(self):
        store = Store(LOAN)
        self.assertIsNone(store.do(("read", (0,))))
        self.check(store, [(LOAN, (0,))])
        self.assertEqual((store.misses(), store.allowed(), store.chances()), ((1, 2), (1, 2), ((1, 2), (1, 2))))
        store.do(("read", (0, 1, 1)))
        self.check(store, [(LOAN, (0, 0, 1, 1))])
        self.assertEqual((store.misses(), store.allowed()), ((2, 1), (2, 1)))
        self.assertIsNone(store.do(("change", SURE)))
        self.check(store, [(LOAN, (0, 0, 1, 1)), (SURE, ())])
        self.assertEqual(store.chances(), ((1, 1), (0, 1)))
        store.do(("read", (0, 0, 1)))
        self.assertEqual((store.misses(), store.allowed()), ((3, 1), (3, 1)))
        store.do(("change", LOAN))
        self.assertEqual(store.allowed(), (7, 2))
        store.do(("change", LOAN))
        self.check(store, [(LOAN, (0, 0, 1, 1)), (SURE, (0, 0, 1)), (LOAN, ()), (LOAN, ())])
        self.assertEqual((store.misses(), store.allowed()), ((3, 1), (4, 1)))
        items = [("machine", LOAN), ("row", (0,)), ("row", (0, 1, 1)), ("machine", SURE), ("row", (0, 0, 1)),
                 ("machine", LOAN), ("machine", LOAN)]
        self.assertEqual(opened(store.disk()), items)

    def test_the_disk_is_noted(self):
        store = Store(FIRM)
        disk = store.disk()
        for deed, item in ((("read", (2, 1)), ("row", (2, 1))), (("change", EVEN), ("machine", EVEN)),
                           (("read", (0,) * 40), ("row", (0,) * 40)), (("change", FIRM), ("machine", FIRM))):
            store.do(deed)
            noted(disk, item, None)
            self.assertEqual(store.disk(), disk)

    def test_rows_and_changes(self):
        dice = random.Random(19)
        for _ in range(12):
            size = dice.randint(2, 4)
            ages = [(kept_machine(dice, size), ())]
            store = Store(ages[0][0])
            for _ in range(14):
                deed = ("read", tuple(dice.randrange(size) for _ in range(dice.choice([1, 2, 7, 40]))))
                if dice.random() < 0.3:
                    deed = ("change", kept_machine(dice, size))
                with Unchanged(self, deed):
                    self.assertIs(is_deed(store, deed), True)
                    self.assertIsNone(store.do(deed))
                ages = behind(ages, deed)
                self.check(store, ages)
            if len(ages[0][1]) <= 400:
                self.assertEqual(misses(ages[0][1], all_guesses(*ages[0])), Store.misses(self.alone(ages[0])))

    def alone(self, age):
        store = Store(age[0])
        for begin in range(0, len(age[1]), 40):
            store.do(("read", age[1][begin:begin + 40]))
        return store

    def test_an_age_of_more_than_400_letters(self):
        dice = random.Random(191)
        for machine in (LOAN, FIRM, near(dice, 4, 12, True)):
            store = Store(machine)
            row = ()
            for _ in range(26):
                more = tuple(dice.randrange(machine[0]) for _ in range(40))
                store.do(("read", more))
                row += more
                if len(row) <= 400:
                    self.assertEqual(store.chances(), guess(machine, row))
                    least = pair(number(allowed(machine, row)) + number(start(machine)))
                    self.assertEqual(store.allowed(), least)
                    self.assertEqual(store.misses(), misses(row, all_guesses(machine, row)))
            self.check(store, [(machine, row)])
            self.assertEqual(len(row), 1040)
            store.compact(None)
            self.check(store, [(machine, row)])
            self.assertEqual(opened(store.disk()), [("machine", machine), ("row", row)])
            store.do(("read", (1, 0)))
            store.fall()
            self.check(store, [(machine, row + (1, 0))], False)
            store.rise()
            store.do(("read", (1,) * 40))
            self.check(store, [(machine, row + (1, 0) + (1,) * 40)])

    def test_is_deed(self):
        for machine, other in ((COIN, LOAN), (LOAN, SURE), (FIRM, EVEN)):
            store = Store(machine)
            size = machine[0]
            for many in (1, 2, 39, 40):
                for letter in range(size):
                    self.assertIs(is_deed(store, ("read", (letter,) * many)), True)
            for thing in (machine, other):
                self.assertIs(is_deed(store, ("change", thing)), True)
            for thing in self.no_deeds(size):
                with Unchanged(self, thing):
                    self.assertIs(is_deed(store, thing), False, thing)
        store = Store(COIN)
        store.fall()
        self.assertIs(is_deed(store, ("read", (0, 1))), True)
        self.assertIs(is_deed(store, ("read", (2,))), False)
        self.assertIs(is_deed(store, ("change", LOAN)), True)

    def no_deeds(self, size):
        """Things that are no deeds for machines of this size."""
        rows = [(), (0,) * 41, (0,) * 400, (0,) * 401, (size,), (0, size), (-1,), (0,) * 39 + (size,), (True,), (0, False), [0],
                "0", None, 0, {0: 0}, ((0,),), (None,), ("0",), nested("tuple", 28)]
        machines = [POOR, THREE, SIX, FOUR, TWO if not kept(TWO) else None, (size, ()), list(COIN), None, (0,), 0,
                    as_guessing(COIN), as_guessing(EVEN), EVEN if size == 2 else COIN, Store(COIN), Disk()]
        wrong = [("read", row) for row in rows] + [("change", machine) for machine in machines]
        right = EVEN if size == 3 else COIN
        wrong += [("change", thing) for thing in misshaped(right) + flagged(right) + unnumbered(right)]
        wrong += [("change", (0,)), ("read", right), ("change", (0, 1)), ("read",), ("change",), ("read", (0,), 1),
                  ("change", right, None), ["read", (0,)], {"read": (0,)}, ("row", (0,)), ("machine", right), ("Read", (0,)),
                  ((0,), "read"), (right, "change"), (0,), right, "read", ("", (0,)), (None, (0,)), (("read",), (0,)),
                  (True, right), Store(COIN), Disk(), (Disk(), Disk())]
        return wrong + never_right()

    def test_no_deeds_change_nothing(self):
        for machine in (COIN, LOAN, FIRM):
            store = Store(machine)
            store.do(("read", (0, 1)))
            before = seen(store)
            for thing in self.no_deeds(machine[0]):
                with Unchanged(self, thing):
                    with self.assertRaises(NoDeed):
                        store.do(thing)
                    for most in (0, 5, 10 ** 29, -1, None, True):
                        with self.assertRaises(NoDeed):
                            store.cut(thing, most)
            for most in NO_NUMBERS + [None]:
                for deed in (("read", (0,)), ("change", machine)):
                    with self.assertRaises(NoNumber):
                        store.cut(deed, most)
            for most in NO_NUMBERS:
                with self.assertRaises(NoNumber):
                    store.compact(most)
            with self.assertRaises(NotDown):
                store.rise()
            self.assertEqual(seen(store), before)
            self.check(store, [(machine, (0, 1))])


class Falls(Checked):
    def some_stores(self):
        """Stores with the ages that they tell."""
        first = Store(LOAN)
        second = Store(COIN)
        for deed in (("read", (0, 1, 1)), ("change", LOAN), ("change", SURE), ("read", (1, 0)), ("read", (1,)), ("change", LOAN)):
            second.do(deed)
        third = second.copy()
        third.compact(None)
        third.do(("read", (0, 0, 1)))
        fourth = Store(FIRM)
        for deed in (("change", EVEN), ("change", FIRM), ("read", (2, 1, 0))):
            fourth.do(deed)
        return [(first, [(LOAN, ())]),
                (second, [(COIN, (0, 1, 1)), (LOAN, ()), (SURE, (1, 0, 1)), (LOAN, ())]),
                (third, [(COIN, (0, 1, 1)), (SURE, (1, 0, 1)), (LOAN, (0, 0, 1))]),
                (fourth, [(FIRM, ()), (EVEN, ()), (FIRM, (2, 1, 0))])]

    def test_fall_and_rise(self):
        for store, ages in self.some_stores():
            self.check(store, ages)
            disk = store.disk()
            self.assertIsNone(store.fall())
            self.assertEqual(store.disk(), disk)
            self.check(store, ages, False)
            self.assertIsNone(store.rise())
            opened(disk)
            self.assertEqual(store.disk(), disk)
            self.check(store, ages)

    def test_deeds_cut_anywhere(self):
        for store, ages in self.some_stores():
            size = ages[0][0][0]
            for deed in (("read", (0,)), ("read", (1, 0) * 20), ("change", COIN if size == 2 else EVEN)):
                done = store.copy()
                done.do(deed)
                k = standing(store.disk())
                line = done.disk().area(k)[len(store.disk().area(k)):]
                for most in list(range(len(line) + 3)) + [10 ** 29]:
                    cut = store.copy()
                    self.assertIsNone(cut.cut(deed, most))
                    self.assertEqual(cut.disk().area(k), store.disk().area(k) + line[:most])
                    told = behind(ages, deed) if most >= len(line) else ages
                    self.check_risen(cut, told, deed, most % 5 == 0 or abs(most - len(line)) < 2)
            self.check(store, ages)

    def check_risen(self, store, ages, deed, altogether=True):
        """A store that fell tells these ages, also when it is up again; then it does a deed."""
        self.assertIs(store.up(), False)
        self.assertEqual(store.ages(), ages)
        self.assertLessEqual(number(store.misses()), number(store.allowed()))
        disk = store.disk()
        if altogether:
            self.check(store, ages, False)
            self.check_down(store)
        store.rise()
        self.assertEqual(store.ages(), ages)
        opened(disk)
        self.assertEqual(store.disk(), disk)
        k = standing(disk)
        self.assertEqual((rest(disk.area(k)), disk.area(1 - k)), (len(disk.area(k)), ""))
        store.do(deed)
        self.assertEqual(store.ages(), behind(ages, deed))
        if altogether:
            self.check(store, behind(ages, deed))

    def test_compacted(self):
        for store, ages in self.some_stores():
            disk = store.disk()
            before = number(store.misses())
            most = number(store.allowed())
            self.assertIsNone(store.compact(None))
            rewritten(disk, tuple(items_of(ages)), None)
            self.assertEqual(store.disk(), disk)
            self.assertEqual(opened(disk), items_of(ages))
            self.check(store, brief(ages))
            self.assertEqual(number(store.misses()), before)
            self.assertLessEqual(number(store.allowed()), most)
            store.compact(None)
            self.check(store, brief(ages))
            store.do(("read", (1,)))
            store.compact(None)
            self.check(store, behind(brief(ages), ("read", (1,))))

    def test_ages_of_one_letter_are_kept(self):
        store = Store(COIN)
        for deed in (("read", (1,)), ("change", SURE), ("read", (0,)), ("change", LOAN), ("change", SURE), ("read", (1,)),
                     ("change", COIN)):
            store.do(deed)
        store.compact(None)
        self.check(store, [(COIN, (1,)), (SURE, (0,)), (SURE, (1,)), (COIN, ())])
        for deed in (("read", (0,)), ("change", LOAN), ("read", (1,))):
            store.do(deed)
        store.compact(None)
        self.check(store, [(COIN, (1,)), (SURE, (0,)), (SURE, (1,)), (COIN, (0,)), (LOAN, (1,))])

    def test_compacting_cut_anywhere(self):
        for store, ages in self.some_stores():
            disk = store.disk()
            k = standing(disk)
            rewritten(disk, tuple(items_of(ages)), None)
            text = disk.area(1 - k)
            for most in list(range(len(text) + 3)) + [10 ** 29]:
                cut = store.copy()
                self.assertIsNone(cut.compact(most))
                self.assertEqual(cut.disk().area(k), store.disk().area(k))
                self.assertEqual(cut.disk().area(1 - k), text[:most])
                told = brief(ages) if most >= len(text) else ages
                self.check_risen(cut, told, ("read", (0, 1)), most % 7 == 0 or abs(most - len(text)) < 2)
            self.check(store, ages)

    def test_a_long_age_compacted_and_cut(self):
        store = Store(LOAN)
        dice = random.Random(192)
        row = ()
        for _ in range(11):
            more = tuple(dice.randrange(2) for _ in range(40))
            store.do(("read", more))
            row += more
        disk = store.disk()
        whole = rewritten(disk, (("machine", LOAN), ("row", row)), None)
        for most in list(range(0, whole + 2, 61)) + [whole - 1, whole, whole + 1]:
            cut = store.copy()
            cut.compact(most)
            self.check_risen(cut, [(LOAN, row)], ("read", (1,)), most in (0, whole - 1, whole))
            self.assertEqual(len(opened(cut.disk())), 13 if most < whole else 3)

    def test_whatever_falls(self):
        dice = random.Random(193)
        for _ in range(8):
            size = dice.randint(2, 4)
            ages = [(kept_machine(dice, size), ())]
            store = Store(ages[0][0])
            for _ in range(40):
                deed = ("read", tuple(dice.randrange(size) for _ in range(dice.randint(1, 40))))
                if dice.random() < 0.2:
                    deed = ("change", kept_machine(dice, size))
                most = dice.choice([dice.randint(0, 250), dice.randint(0, 3000), 10 ** 29])
                what = dice.randrange(6)
                if what < 3:
                    store.do(deed)
                    ages = behind(ages, deed)
                elif what == 3:
                    trial = store.copy()
                    trial.do(deed)
                    store.cut(deed, most)
                    k = standing(store.disk())
                    ages = behind(ages, deed) if store.disk() == trial.disk() else ages
                elif what == 4:
                    most = dice.choice([None, most])
                    trial = store.copy()
                    trial.compact(None)
                    store.compact(most)
                    ages = brief(ages) if store.disk() == trial.disk() else ages
                else:
                    store.fall()
                self.assertEqual(store.ages(), ages)
                self.assertLessEqual(number(store.misses()), number(store.allowed()))
                if not store.up():
                    if dice.random() < 0.3:
                        store = store.copy()
                        self.check(store, ages, False)
                    store.rise()
                self.assertIs(store.up(), True)
            self.check(store, ages)

    def check_down(self, store):
        """A store that is down tells so ahead of all other errors, and nothing changes."""
        before = seen(store)
        for deed in (("read", (0,)), ("change", store.machine()), None, (), ("read", ()), Disk()):
            with self.assertRaises(Down):
                store.do(deed)
            for most in (0, 3, None, -1, True, 10 ** 29):
                with self.assertRaises(Down):
                    store.cut(deed, most)
        for most in (None, 0, 5, -1, True, "0", ()):
            with self.assertRaises(Down):
                store.compact(most)
        with self.assertRaises(Down):
            store.fall()
        self.assertEqual(seen(store), before)

    def test_down_and_not_down(self):
        for store, ages in self.some_stores():
            for _ in range(2):
                with self.assertRaises(NotDown):
                    store.rise()
                self.check(store, ages)
                store.fall()
                self.check_down(store)
                store.rise()


class Copies(Checked):
    def test_copies_go_on_by_themselves(self):
        store = Store(LOAN)
        store.do(("read", (0, 1)))
        twin = store.copy()
        self.assertIsInstance(twin, Store)
        self.assertEqual(seen(twin), seen(store))
        twin.do(("read", (1,)))
        store.do(("change", COIN))
        self.check(twin, [(LOAN, (0, 1, 1))])
        self.check(store, [(LOAN, (0, 1)), (COIN, ())])
        third = store.copy()
        third.cut(("read", (1, 1)), 9)
        fourth = third.copy()
        self.assertEqual(seen(fourth), seen(third))
        self.assertIs(fourth.up(), False)
        fourth.rise()
        fourth.compact(None)
        self.check(fourth, [(LOAN, (0, 1)), (COIN, ())])
        self.check(third, [(LOAN, (0, 1)), (COIN, ())], False)
        self.check(store, [(LOAN, (0, 1)), (COIN, ())])
        self.assertNotEqual(third.disk(), store.disk())
        self.assertNotEqual(fourth.disk(), store.disk())

    def test_what_is_told_is_new(self):
        store = Store(COIN)
        store.do(("read", (0,)))
        before = seen(store)
        disk = store.disk()
        self.assertIsInstance(disk, Disk)
        disk.clear(0)
        disk.append(1, "x", None)
        store.ages().clear()
        store.ages()[0] = None
        self.assertEqual(seen(store), before)
        self.assertEqual(len(lines(store.disk().area(0))), 4)


if __name__ == "__main__":
    unittest.main()
