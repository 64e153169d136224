"""Point 17: disks, their lines, and how they are written and opened."""

import random
import unittest

from keptmisses.disks import Disk, lines, noted, opened, rest, rewritten, standing
from keptmisses.errors import MissError, NoArea, NoItems, NoNumber, NoStand, NoText
from keptmisses.texts import check, sealed
from samples import COIN, FOUR, Unchanged, nested

NO_AREAS = [-1, 2, 3, 10 ** 29, True, False, None, "0", "", (), (0,), [], [0], {}, {0: 0}, MissError(), nested("tuple", 30)]
NO_TEXTS = [None, True, 0, 1, (), ("a",), [], ["a"], {}, {"a": 1}, "\t", "a\r", "\x7f", "\x00", "\xe9", MissError(),
            nested("tuple", 30), nested("list", 30)]
NO_NUMBERS = [-1, -10 ** 29, True, False, "0", "", (), (0,), [], [0], {}, {0: 0}, MissError(), nested("tuple", 30)]
NO_ITEMS = [True, False, [], [1], {}, 10 ** 30, -10 ** 30, "\n", "a\nb", (True,), (1, ([],)), nested("tuple", 29),
            nested("pair", 30), (nested("tuple", 28),), MissError(), Disk(), (Disk(),), nested("list", 29)]
ITEMS = [0, None, "", "a#~'b", (), (1, 2), ("machine", COIN), ("row", (0, 1, 1)), 10 ** 30 - 1, nested("tuple", 28), "item",
         ("item", 1), ("whole",), ("area", 7)]


def text_of_lines(*entries):
    """A text whose lines all count."""
    text = ""
    for entry in entries:
        text += sealed((check(text), entry)) + "\n"
    return text


def disk_of(*texts):
    """A disk with these texts."""
    disk = Disk()
    for k, text in enumerate(texts):
        disk.append(k, text, None)
    return disk


def area_text(generation, *items):
    """The text of an area that stands."""
    return text_of_lines(("area", generation), *[("item", item) for item in items], ("whole",))


def texts(disk):
    return (disk.area(0), disk.area(1))


class Areas(unittest.TestCase):
    def test_empty(self):
        self.assertEqual(texts(Disk()), ("", ""))
        self.assertEqual(Disk(), Disk())

    def test_append(self):
        disk = Disk()
        self.assertEqual(disk.append(0, "abc", None), 3)
        self.assertEqual(disk.append(0, "", None), 0)
        self.assertEqual(disk.append(1, "x\n~ ", None), 4)
        self.assertEqual(disk.append(0, "def", 2), 2)
        self.assertEqual(disk.append(0, "ghi", 0), 0)
        self.assertEqual(disk.append(1, "jkl", 3), 3)
        self.assertEqual(disk.append(1, "mno", 4), 3)
        self.assertEqual(disk.append(1, "", 10 ** 29), 0)
        self.assertEqual(disk.append(0, "pq", 10 ** 30 - 1), 2)
        self.assertEqual(texts(disk), ("abcdepq", "x\n~ jklmno"))

    def test_long_texts(self):
        disk = Disk()
        for _ in range(6):
            self.assertEqual(disk.append(1, "ab\n~" * 5000, None), 20000)
        self.assertEqual(disk.area(1), "ab\n~" * 30000)
        disk.append(0, disk.area(1), 119999)
        self.assertEqual(disk.area(0), ("ab\n~" * 30000)[:-1])

    def test_clear_and_shorten(self):
        disk = disk_of("abcdef", "gh\ni")
        self.assertIsNone(disk.shorten(0, 6))
        self.assertEqual(texts(disk), ("abcdef", "gh\ni"))
        disk.shorten(0, 4)
        disk.shorten(1, 3)
        self.assertEqual(texts(disk), ("abcd", "gh\n"))
        self.assertIsNone(disk.clear(1))
        self.assertEqual(texts(disk), ("abcd", ""))
        disk.shorten(0, 0)
        disk.shorten(1, 0)
        disk.clear(0)
        self.assertEqual(disk, Disk())

    def test_copies_go_on_by_themselves(self):
        disk = disk_of("ab", "cd")
        twin = disk.copy()
        self.assertIsInstance(twin, Disk)
        self.assertEqual(twin, disk)
        twin.append(0, "x", None)
        disk.clear(1)
        self.assertEqual((texts(twin), texts(disk)), (("abx", "cd"), ("ab", "")))

    def test_equal(self):
        self.assertTrue(disk_of("a", "b") == disk_of("a", "b"))
        self.assertFalse(disk_of("a", "b") != disk_of("a", "b"))
        for other in (disk_of("b", "a"), disk_of("a"), disk_of("", "b"), disk_of("a", "bb"), disk_of("ab")):
            self.assertFalse(disk_of("a", "b") == other)
            self.assertTrue(disk_of("a", "b") != other)
        for other in (None, True, 0, "", "a", (), ("a", "b"), ["a", "b"], {}, MissError()):
            self.assertIs(disk_of("a", "b") == other, False)
            self.assertIs(other == disk_of("a", "b"), False)

    def check(self, error, disk, function):
        before = texts(disk)
        with self.assertRaises(error):
            function(disk)
        self.assertEqual(texts(disk), before)

    def test_wrong(self):
        disk = disk_of("abc", "de")
        for k in NO_AREAS:
            self.check(NoArea, disk, lambda disk: disk.area(k))
            self.check(NoArea, disk, lambda disk: disk.clear(k))
            for many in (0, -1, None):
                self.check(NoArea, disk, lambda disk: disk.shorten(k, many))
            for text, most in (("a", None), (None, None), ("a", -1), ("\t", True)):
                self.check(NoArea, disk, lambda disk: disk.append(k, text, most))
        for k in (0, 1):
            for text in NO_TEXTS:
                for most in (None, 1, -1, True):
                    self.check(NoText, disk, lambda disk: disk.append(k, text, most))
            for most in NO_NUMBERS:
                for text in ("abc", ""):
                    self.check(NoNumber, disk, lambda disk: disk.append(k, text, most))
            for many in NO_NUMBERS + [None, 4 - k, 5, 10 ** 29]:
                self.check(NoNumber, disk, lambda disk: disk.shorten(k, many))


class Lines(unittest.TestCase):
    def check(self, text, entries, many):
        for _ in range(2):
            told = lines(text)
            self.assertIsInstance(told, list)
            self.assertEqual(told, entries)
            self.assertEqual(rest(text), many)
            told.append(None)

    def test_by_hand(self):
        self.check("", [], 0)
        one = "(0,'a')#" + str(check("(0,'a')")) + "\n"
        self.check(one, ["a"], len(one))
        behind = f"({check(one)},.)"
        two = one + behind + f"#{check(behind)}\n"
        self.check(two, ["a", None], len(two))
        self.assertEqual(text_of_lines("a", None), two)

    def test_all_lines_count(self):
        entries = ITEMS + [("area", 0), nested("tuple", 29)]
        for many in range(len(entries) + 1):
            text = text_of_lines(*entries[:many])
            self.check(text, entries[:many], len(text))

    def test_cut_anywhere(self):
        entries = [("area", 3), ("item", "x#'~\""), ("whole",), None, ("item", (1, 2))]
        ends = [len(text_of_lines(*entries[:many])) for many in range(6)]
        text = text_of_lines(*entries)
        for many in range(len(text) + 1):
            count = sum(end <= many for end in ends) - 1
            self.check(text[:many], entries[:count], ends[count])

    def test_a_line_that_does_not_count_ends_them(self):
        entries = ["a", "b", ("c", 1), "d"]
        for place in range(4):
            ahead = text_of_lines(*entries[:place])
            behind = text_of_lines(*entries)[len(ahead):]
            right = behind.split("\n")[0]
            for wrong in ("\n", "a\n", sealed(entries[place]) + "\n", sealed((check(ahead) + 1, entries[place])) + "\n",
                          sealed((check(ahead), entries[place], 0)) + "\n", sealed((check(ahead),)) + "\n",
                          sealed((str(check(ahead)), entries[place])) + "\n", sealed((None, entries[place])) + "\n",
                          sealed(((), entries[place])) + "\n", sealed(check(ahead)) + "\n", sealed(()) + "\n",
                          " " + right + "\n", right + " \n", right[:-1] + "\n", right[1:] + "\n", right + right + "\n",
                          right.replace("#", "##") + "\n", right.split("#")[0] + "\n"):
                self.check(ahead + wrong, entries[:place], len(ahead))
                self.check(ahead + wrong + behind, entries[:place], len(ahead))
        # A line counts only where it stood.
        text = text_of_lines("a", "b", "c")
        one, two, three, _ = [line + "\n" for line in text.split("\n")]
        self.check(two + three, [], 0)
        self.check(one + three, ["a"], len(one))
        self.check(one + one, ["a"], len(one))
        self.check(one + two + two, ["a", "b"], len(one + two))

    def test_the_check_is_of_all_lines_ahead(self):
        dice = random.Random(17)
        entries = [("item", tuple(dice.randrange(4) for _ in range(40))) for _ in range(60)]
        text = text_of_lines(*entries)
        self.check(text, entries, len(text))
        first = text.split("\n")[0] + "\n"
        for place in (0, 1):
            other = text_of_lines(("item", (dice.randrange(4),) * 39 + (place,)))
            if other != first and check(other) != check(first):
                self.check(other + text[len(first):], lines(other), len(other))

    def test_no_text(self):
        for thing in NO_TEXTS:
            for function in (lines, rest):
                with Unchanged(self, thing), self.assertRaises(NoText):
                    function(thing)


class Standing(unittest.TestCase):
    STANDS = [text_of_lines(("area", 5), ("whole",)), text_of_lines(("area", 5), 1, ("item", 2), ("whole",), ("item", 3)),
              text_of_lines(("area", 5), ("area", 9), ("whole",)), text_of_lines(("area", 5), ("whole",), ("whole",)),
              text_of_lines(("area", 5), ("whole",)) + "a", text_of_lines(("area", 5), ("whole",), None) + "a\nb\n"]
    NONE = ["", "a", "\n", text_of_lines(("whole",)), text_of_lines(("area", 5)), text_of_lines(("whole",), ("area", 5)),
            text_of_lines(("area", -1), ("whole",)), text_of_lines(("area", None), ("whole",)),
            text_of_lines(("area", "5"), ("whole",)), text_of_lines(("area", (5,)), ("whole",)),
            text_of_lines(("area",), ("whole",)), text_of_lines(("area", 5, 5), ("whole",)), text_of_lines("area", ("whole",)),
            text_of_lines(("Area", 5), ("whole",)), text_of_lines(5, ("whole",)), text_of_lines((5, "area"), ("whole",)),
            text_of_lines(None, ("area", 5), ("whole",)), text_of_lines(("item", 1), ("area", 5), ("whole",)),
            text_of_lines(("area", 5), "whole"), text_of_lines(("area", 5), ("whole", 1)), text_of_lines(("area", 5), ()),
            text_of_lines(("area", 5), (("whole",),)), text_of_lines(("area", 5), ("item", ("whole",))),
            text_of_lines(("area", 5), ("whole",))[:-1], "\n" + text_of_lines(("area", 5), ("whole",)),
            text_of_lines(("area", 5)) + text_of_lines(("whole",)), " " + text_of_lines(("area", 5), ("whole",))]

    def check(self, disk, area):
        before = texts(disk)
        for _ in range(2):
            told = standing(disk)
            self.assertEqual(told, area)
            self.assertIs(type(told), type(area))
            self.assertEqual(texts(disk), before)

    def test_one_or_none(self):
        for text in self.STANDS:
            for other in self.NONE:
                self.check(disk_of(text, other), 0)
                self.check(disk_of(other, text), 1)
        for text in self.NONE:
            for other in self.NONE[:6]:
                self.check(disk_of(text, other), None)
                self.check(disk_of(other, text), None)

    def test_both(self):
        for one in (0, 1, 2, 9, 10, 10 ** 29, 10 ** 30 - 1):
            for other in (0, 1, 2, 9, 10, 10 ** 29, 10 ** 30 - 1):
                self.check(disk_of(area_text(one, "a"), area_text(other, "b")), 0 if one >= other else 1)
        for one in self.STANDS:
            for other in self.STANDS:
                self.check(disk_of(one, other), 0)

    def test_opened(self):
        items = [[], [2, 3], [], [], [], []]
        for text, told in zip(self.STANDS, items):
            for other in self.NONE + [area_text(4, 7), area_text(0)]:
                for disk, k in ((disk_of(text, other), 0), (disk_of(other, text), 1)):
                    self.assertEqual(opened(disk), told)
                    self.assertEqual(disk.area(k), text[:rest(text)])
                    self.assertEqual(disk.area(1 - k), "")
                    self.check_again(disk, told)
        self.assertEqual(opened(disk_of(area_text(3, "a"), area_text(3, "b"))), ["a"])
        self.assertEqual(opened(disk_of(area_text(3, "a"), area_text(4, "b"))), ["b"])
        self.assertEqual(opened(disk_of(area_text(10, "a"), area_text(9, "b"))), ["a"])

    def check_again(self, disk, told):
        before = texts(disk)
        again = opened(disk)
        self.assertIsInstance(again, list)
        self.assertEqual(again, told)
        self.assertEqual(texts(disk), before)
        again.append(1)
        self.assertEqual(opened(disk), told)

    def test_opened_where_none_stands(self):
        for one in self.NONE:
            for other in (self.NONE[0], self.NONE[4], one):
                disk = disk_of(one, other)
                self.assertEqual(opened(disk), [])
                self.assertEqual(texts(disk), (text_of_lines(("area", 0), ("whole",)), ""))
                self.check_again(disk, [])

    def test_items_are_pairs_with_the_word(self):
        entries = [("area", 1), ("item", 1), ("item",), ("item", 2, 3), "item", ("Item", 4), ("items", 5), (6, "item"), None,
                   ("item", ("item", 7)), ("whole",), ("item", None), ("area", 8), ("item", ())]
        text = text_of_lines(*entries)
        disk = disk_of(text)
        self.assertEqual(opened(disk), [1, ("item", 7), None, ()])
        self.assertEqual(disk.area(0), text)


class Written(unittest.TestCase):
    def test_by_hand(self):
        disk = Disk()
        self.assertEqual(opened(disk), [])
        many = noted(disk, "a", None)
        text = text_of_lines(("area", 0), ("whole",), ("item", "a"))
        self.assertEqual(texts(disk), (text, ""))
        self.assertEqual(many, len(text) - len(text_of_lines(("area", 0), ("whole",))))
        many = rewritten(disk, ("b", 1), None)
        other = text_of_lines(("area", 1), ("item", "b"), ("item", 1), ("whole",))
        self.assertEqual(texts(disk), (text, other))
        self.assertEqual(many, len(other))
        noted(disk, (2,), None)
        self.assertEqual(texts(disk), (text, text_of_lines(("area", 1), ("item", "b"), ("item", 1), ("whole",), ("item", (2,)))))
        rewritten(disk, (), None)
        self.assertEqual(disk.area(0), text_of_lines(("area", 2), ("whole",)))
        self.assertEqual(opened(disk), [])
        self.assertEqual(texts(disk), (text_of_lines(("area", 2), ("whole",)), ""))

    def test_all_items(self):
        disk = Disk()
        opened(disk)
        for many, item in enumerate(ITEMS):
            with Unchanged(self, item):
                noted(disk, item, None)
            self.assertEqual(opened(disk.copy()), ITEMS[:many + 1])
        rewritten(disk, tuple(ITEMS), None)
        self.assertEqual(opened(disk), ITEMS)
        rewritten(disk, tuple(ITEMS[::-1]) * 3, 10 ** 29)
        self.assertEqual(opened(disk), ITEMS[::-1] * 3)
        self.assertEqual(disk.area(0), area_text(2, *ITEMS[::-1] * 3))

    def some_disks(self):
        first = Disk()
        opened(first)
        second = disk_of("", area_text(7, 1, (2, "x")))
        third = second.copy()
        noted(third, FOUR, None)
        fourth = third.copy()
        rewritten(fourth, (3, "~'#"), None)
        fifth = disk_of(area_text(10 ** 30 - 2, None), area_text(3, 5))
        return [first, second, third, fourth, fifth]

    def test_noted_cut_anywhere(self):
        for disk in self.some_disks():
            items = opened(disk.copy())
            k = standing(disk)
            for item in ITEMS:
                whole = disk.copy()
                many = noted(whole, item, None)
                line = whole.area(k)[len(disk.area(k)):]
                self.assertEqual((many, whole.area(1 - k)), (len(line), disk.area(1 - k)))
                for most in list(range(len(line) + 3)) + [10 ** 29]:
                    cut = disk.copy()
                    self.assertEqual(noted(cut, item, most), min(most, len(line)))
                    self.assertEqual(cut.area(k), disk.area(k) + line[:most])
                    self.assertEqual(cut.area(1 - k), disk.area(1 - k))
                    told = items + [item] if most >= len(line) else items
                    self.check_opened(cut, told)
                    noted(cut, "more", None)
                    self.assertEqual(opened(cut), told + ["more"])

    def check_opened(self, disk, told):
        self.assertEqual(opened(disk), told)
        before = texts(disk)
        self.assertEqual(opened(disk), told)
        self.assertEqual(texts(disk), before)
        k = standing(disk)
        self.assertEqual(before[1 - k], "")
        self.assertEqual(rest(before[k]), len(before[k]))

    def test_rewritten_cut_anywhere(self):
        for disk in self.some_disks():
            elder = opened(disk.copy())
            k = standing(disk)
            for items in ((), ("a",), (1, ("b~'", None), ("whole",)), (nested("tuple", 28), ("row", (0, 1) * 20))):
                whole = disk.copy()
                many = rewritten(whole, items, None)
                text = whole.area(1 - k)
                generation = lines(disk.area(k))[0][1] + 1
                self.assertEqual(text, area_text(generation, *items))
                self.assertEqual((many, whole.area(k)), (len(text), disk.area(k)))
                for most in list(range(len(text) + 3)) + [10 ** 29]:
                    cut = disk.copy()
                    self.assertEqual(rewritten(cut, items, most), min(most, len(text)))
                    self.assertEqual(cut.area(k), disk.area(k))
                    self.assertEqual(cut.area(1 - k), text[:most])
                    told = list(items) if most >= len(text) else elder
                    self.check_opened(cut, told)
                    rewritten(cut, tuple(told[::-1]), None) if most < len(text) else noted(cut, 1, None)
                    self.assertEqual(opened(cut), told[::-1] if most < len(text) else told + [1])

    def test_cut_again_and_again(self):
        dice = random.Random(171)
        disk = Disk()
        items = opened(disk)
        for _ in range(300):
            if dice.random() < 0.6:
                item = dice.choice(ITEMS)
                whole = noted(disk.copy(), item, None)
                most = dice.choice([None, None, dice.randint(0, whole + 1), whole, whole - 1])
                noted(disk, item, most)
                items = items + [item] if most is None or most >= whole else items
            else:
                newer = tuple(dice.choice(ITEMS) for _ in range(dice.randint(0, 4)))
                whole = rewritten(disk.copy(), newer, None)
                most = dice.choice([None, None, dice.randint(0, whole + 1), whole, whole - 1])
                rewritten(disk, newer, most)
                items = list(newer) if most is None or most >= whole else items
            if most is not None or dice.random() < 0.5:
                self.check_opened(disk, items)
            self.assertEqual(opened(disk.copy()), items)

    def check_error(self, error, disk, function):
        before = texts(disk)
        with self.assertRaises(error):
            function(disk)
        self.assertEqual(texts(disk), before)

    def test_no_items(self):
        for disk in self.some_disks() + [Disk()]:
            for item in NO_ITEMS:
                for most in (None, 0, -1, True):
                    with Unchanged(self, item):
                        self.check_error(NoItems, disk, lambda disk: noted(disk, item, most))
                        self.check_error(NoItems, disk, lambda disk: rewritten(disk, (item,), most))
                        self.check_error(NoItems, disk, lambda disk: rewritten(disk, (1, "a", item, 2), most))
            for items in (None, True, 0, "a", [], [1], {}, {0: 1}, MissError(), Disk(), 10 ** 29):
                for most in (None, 0, -1, True):
                    self.check_error(NoItems, disk, lambda disk: rewritten(disk, items, most))

    def test_28_deep_and_29(self):
        disk = self.some_disks()[1]
        deep = nested("tuple", 28)
        noted(disk, deep, None)
        self.assertEqual(opened(disk), [1, (2, "x"), deep])
        rewritten(disk, (deep, (), deep), None)
        self.assertEqual(opened(disk), [deep, (), deep])
        for wrong in ((deep,), (deep, 1), nested("tuple", 29), nested("tuple", 30)):
            self.check_error(NoItems, disk, lambda disk: noted(disk, wrong, None))
            self.check_error(NoItems, disk, lambda disk: rewritten(disk, (deep, wrong), None))

    def test_no_number(self):
        for disk in self.some_disks() + [Disk()]:
            for most in NO_NUMBERS:
                self.check_error(NoNumber, disk, lambda disk: noted(disk, 1, most))
                self.check_error(NoNumber, disk, lambda disk: rewritten(disk, (1,), most))

    def test_no_stand(self):
        for text in Standing.NONE:
            for disk in (disk_of(text), disk_of("", text), disk_of(text, text)):
                for most in (None, 0, 5):
                    self.check_error(NoStand, disk, lambda disk: noted(disk, 1, most))
                    self.check_error(NoStand, disk, lambda disk: rewritten(disk, (1,), most))

    def test_the_last_generation(self):
        for disk in (disk_of(area_text(10 ** 30 - 1, 4)), disk_of(area_text(7, 5), area_text(10 ** 30 - 1, 4))):
            for most in (None, 0, 5):
                self.check_error(NoStand, disk, lambda disk: rewritten(disk, (1,), most))
            noted(disk, 6, None)
            self.assertEqual(opened(disk), [4, 6])
        disk = disk_of(area_text(10 ** 30 - 2, 4))
        rewritten(disk, (5,), None)
        self.assertEqual(disk.area(1), area_text(10 ** 30 - 1, 5))
        self.check_error(NoStand, disk, lambda disk: rewritten(disk, (1,), None))
        self.assertEqual(opened(disk), [5])


if __name__ == "__main__":
    unittest.main()
