"""Point 16: machines as texts."""

import random
import unittest

from keptmisses.errors import MissError, NoMachine
from keptmisses.notation import machine_text, read_machine
from reckoned import far, halves, some_machine, wide
from samples import (COIN, FOUR, MACHINES, SIX, THREE, TWO, Unchanged, flagged, misshaped, never_right, put, relengthened,
                     steps, unnumbered)

SIGNS = [chr(code) for code in range(32, 127)] + ["\n"]


class Written(unittest.TestCase):
    def check(self, machine, text):
        with Unchanged(self, machine):
            for _ in range(2):
                self.assertEqual(machine_text(machine), text)
                self.assertEqual(read_machine(text), machine)

    def test_by_hand(self):
        self.check(COIN, "size 2\n1/2:0 1/2:0\n")
        self.check(TWO, "size 2\n1/3:1 0/1:0\n-5/7:0 1/1:1\n")
        self.check(THREE, "size 3\n1000000/1:0 -1000000/1:0 1/1000:0\n")
        self.check(SIX, "size 3\n1/1:1 0/1:2 2/3:1\n1/1:0 1/1:1 1/1:2\n1/5:2 1/5:2 1/5:2\n0/1:4 0/1:0 0/1:0\n"
                        "0/1:5 0/1:5 0/1:5\n0/1:3 0/1:3 0/1:3\n")
        self.assertEqual(machine_text(FOUR).splitlines()[9:13],
                         ["1/2:9 -3/4:0 0/1:11 999999/1000:8", "1/2:10 -3/4:0 0/1:11 999999/1000:9",
                          "1/2:11 -3/4:0 0/1:11 999999/1000:10", "1/2:0 -3/4:0 0/1:11 999999/1000:11"])

    def test_as_described(self):
        dice = random.Random(16)
        for count in list(range(1, 13)) * 4:
            machine = some_machine(dice, dice.randint(2, 4), count, dice.choice([far, halves, wide]))
            text = f"size {machine[0]}\n"
            for rule in machine[1]:
                text += " ".join(f"{top}/{bottom}:{behind}" for (top, bottom), behind in rule) + "\n"
            self.check(machine, text)

    def test_no_machine(self):
        wrong = misshaped(TWO) + flagged(TWO) + unnumbered(TWO) + relengthened(TWO, but=[(1,)])
        for thing in wrong + never_right() + [steps(2, 13), steps(2, 2, 2), machine_text(COIN), MissError()]:
            with Unchanged(self, thing), self.assertRaises(NoMachine):
                machine_text(thing)


class Read(unittest.TestCase):
    def check_none(self, thing):
        with Unchanged(self, thing):
            self.assertIsNone(read_machine(thing), thing)

    def test_by_one_sign(self):
        """A text that differs by one sign is another machine's own text, or none's."""
        for machine in (COIN, TWO, THREE, (4, ((((10, 7), 1),) * 4, (((-1, 9), 0),) * 4))):
            text = machine_text(machine)
            others = [text[:place] + text[place + 1:] for place in range(len(text))]
            for place in range(len(text) + 1):
                others += [text[:place] + sign + text[place:] for sign in SIGNS]
            for place in range(len(text)):
                others += [text[:place] + sign + text[place + 1:] for sign in SIGNS if sign != text[place]]
            some = 0
            for other in others:
                told = read_machine(other)
                if told is not None:
                    self.assertEqual(machine_text(told), other)
                    some += 1
                self.assertEqual(told, self.read_otherwise(other))
            self.assertGreater(some, 3)

    def read_otherwise(self, text):
        """Another way to read: by Python's own numbers, with each word written again."""
        lines = text.split("\n")
        if len(lines) < 3 or lines[-1] != "" or lines[0] not in ("size 2", "size 3", "size 4"):
            return None
        rules = []
        for line in lines[1:-1]:
            rule = []
            for word in line.split(" "):
                parts = word.replace("/", ":").split(":")
                if len(parts) != 3 or not all(part.lstrip("-").isdigit() and part.count("-") < 2 for part in parts):
                    return None
                if "-" in "".join(part[1:] for part in parts):
                    return None
                top, bottom, behind = map(int, parts)
                if word != f"{top}/{bottom}:{behind}":
                    return None
                rule.append(((top, bottom), behind))
            rules.append(tuple(rule))
        machine = (int(lines[0][5:]), tuple(rules))
        try:
            machine_text(machine)
        except NoMachine:
            return None
        return machine

    def test_numbers(self):
        for number in ("00", "01", "-0", "+1", "--1", "1-", "-", "", "1 ", " 1", "1.0", "1e1", "0x1", "1_0", "a", "1/1", "-01",
                       "0" * 19000, "1" * 5000, "-" + "1" * 19000, "9" * 31):
            for text in (f"size 2\n{number}/1:0 1/2:0\n", f"size 2\n1/{number}:0 1/2:0\n", f"size 2\n1/2:{number} 1/2:0\n",
                         f"size {number}\n1/2:0 1/2:0\n"):
                self.check_none(text)

    def test_bounds(self):
        for step in ("1000001/1:0", "-1000001/1:0", "1/1001:0", "1/0:0", "1/-1:0", "2/4:0", "0/2:0", "1/2:1", "1/2:-1", "1/2:12"):
            self.check_none(f"size 2\n{step} 1/2:0\n")
            self.check_none(f"size 2\n1/2:0 {step}\n")
        for step in ("1000000/1:0", "-1000000/1:0", "1/1000:0", "0/1:0", "-999999/1000:0"):
            text = f"size 2\n{step} 1/2:0\n"
            self.assertEqual(machine_text(read_machine(text)), text)
        for size, many in ((1, 1), (5, 5), (0, 0), (2, 3), (3, 2), (4, 5)):
            self.check_none(f"size {size}\n" + " ".join(["1/2:0"] * many) + "\n")
        for count in (0, 13, 14, 400):
            self.check_none("size 2\n" + "1/2:0 1/2:0\n" * count)
        for count in (1, 12):
            self.assertEqual(len(read_machine("size 2\n" + "1/2:0 1/2:0\n" * count)[1]), count)

    def test_shapes(self):
        right = "size 2\n1/2:0 1/2:0\n"
        self.assertEqual(read_machine(right), COIN)
        for text in (right[:-1], right + "\n", "\n" + right, right + " ", " " + right, right * 2, right + right[7:-1], "",
                     "\n", "\n\n", "size 2", "size 2\n", "size 2\n\n", "Size 2\n1/2:0 1/2:0\n", "2\n1/2:0 1/2:0\n",
                     "size  2\n1/2:0 1/2:0\n", "size 2 \n1/2:0 1/2:0\n", "size 2 1/2:0 1/2:0\n", "size 2\n1/2:0\n1/2:0\n",
                     "size 2\n1/2:0  1/2:0\n", "size 2\n1/2:0 1/2:0 \n", "size 2\n 1/2:0 1/2:0\n", "size 2\n1/2:0,1/2:0\n",
                     "size 2\n1:2/0 1/2:0\n", "size 2\n1/2/0 1/2:0\n", "size 2\n1:2:0 1/2:0\n", "size size 2\n1/2:0 1/2:0\n",
                     "size 2\n1/2:0:0 1/2:0\n", "size 2\n1/2/1:0 1/2:0\n", "1/2:0 1/2:0\nsize 2\n", "size 2\n\n1/2:0 1/2:0\n",
                     "size 2\n1/2:0 1/2:0\n\n1/2:0 1/2:0\n", " " * 20000, "\n" * 20000, "1/2:0 " * 3000, "/" * 9999, "-" * 9999):
            self.check_none(text)

    def test_other_values(self):
        for thing in never_right() + MACHINES + [list(machine_text(COIN)), (machine_text(COIN),), {machine_text(COIN): 1},
                                                 MissError(), put(COIN, (0,), 3)]:
            self.check_none(thing)


if __name__ == "__main__":
    unittest.main()
