"""Point 18: things as texts, and sealed texts."""

import random
import unittest

from keptmisses.disks import Disk
from keptmisses.errors import BadText, MissError, NoText, NoThing
from keptmisses.texts import check, read_thing, sealed, thing_text, unsealed
from samples import COIN, Unchanged, nested

SIGNS = "".join(chr(code) for code in range(32, 127))
NO_THINGS = [True, False, [], [1], {}, {0: 1}, "\t", "a\x7f", ("\xe9",), 10 ** 30, -10 ** 30, 10 ** 31, "\n", "a\nb", (True,), (1, (2, [3])), ((), {}),
             ("a", "b\n"), (10 ** 30,), (None, (None, (False,))), nested("tuple", 31), nested("pair", 31), nested("list", 30),
             (nested("tuple", 30),), nested("dict", 30), MissError(), Disk(), (Disk(), 1), (0,) * 19000 + (True,)]
NO_TEXTS = [None, True, 0, 1, -1, (), ("a",), [], ["a"], {}, {"a": 1}, MissError(), Disk(), nested("tuple", 30),
            nested("list", 30), nested("dict", 30)]


def text_of(thing):
    """The text of a thing, sign by sign."""
    if isinstance(thing, tuple):
        inner = ""
        for place, item in enumerate(thing):
            inner += ("," if place else "") + text_of(item)
        return "(" + inner + ")"
    if isinstance(thing, str):
        return "'" + "".join("~" + sign if sign in "~'" else sign for sign in thing) + "'"
    return "." if thing is None else "%d" % thing


def spoiled_at(text):
    """The place of the first sign at which no text of a thing can go on, or where it ends too soon; None if it is one.

    It goes from sign to sign with a word for what may come, and counts tuples that aren't ended.
    """
    may, deep, digits = "thing", 0, 0
    for place, sign in enumerate(text):
        if may == "string":
            if sign == "~":
                may = "escape"
            elif sign == "'":
                may = "end"
            elif sign not in SIGNS:
                return place
            continue
        if may == "escape":
            if sign not in "~'":
                return place
            may = "string"
            continue
        if may == "digits" and sign in "0123456789":
            digits += 1
            if digits > 30:
                return place
            continue
        if may in ("digits", "end"):
            if deep == 0 or sign not in ",)":
                return place
            may = "thing" if sign == "," else "end"
            deep -= sign == ")"
            continue
        if may == "minus":
            if sign not in "123456789":
                return place
            may, digits = "digits", 1
            continue
        if sign == "-":
            may = "minus"
        elif sign in "123456789":
            may, digits = "digits", 1
        elif sign in "0.":
            may = "end"
        elif sign == "'":
            may = "string"
        elif sign == "(" and deep < 30:
            may, deep = "first", deep + 1
        elif sign == ")" and may == "first":
            may, deep = "end", deep - 1
        else:
            return place
    return None if deep == 0 and may in ("end", "digits") else len(text)


def some_thing(dice, deep):
    """A thing with tuples at most so deep."""
    kind = dice.randrange(6)
    if kind < 2 and deep > 0:
        return tuple(some_thing(dice, deep - 1) for _ in range(dice.randrange(5)))
    if kind == 2:
        return None
    if kind < 5:
        return dice.choice([0, 1, -1, dice.randint(-99, 99), dice.randint(-10 ** 30 + 1, 10 ** 30 - 1), 10 ** 30 - 1])
    return "".join(dice.choice(SIGNS + "''~~(),#") for _ in range(dice.choice([0, 1, 2, 7, 30])))


class Things(unittest.TestCase):
    def check_both(self, thing, text):
        with Unchanged(self, thing):
            for _ in range(2):
                self.assertEqual(thing_text(thing), text)
                self.assertEqual(read_thing(text), thing)
        self.assertIs(type(read_thing(text)), type(thing))

    def test_by_hand(self):
        for thing, text in ((0, "0"), (7, "7"), (-7, "-7"), (10, "10"), (-100, "-100"), (None, "."), ("", "''"), ("a", "'a'"),
                            ("it's", "'it~'s'"), ("~", "'~~'"), ("'", "'~''"), ("~'", "'~~~''"), ("'~", "'~'~~'"), (" ", "' '"),
                            ("0", "'0'"), (".", "'.'"), ("(1,2)", "'(1,2)'"), ((), "()"), ((1,), "(1)"), ((1, 2), "(1,2)"),
                            ((None,), "(.)"), (((),), "(())"), (((), ()), "((),())"), (("",), "('')"),
                            ((0, (-1, ("x", None)), ()), "(0,(-1,('x',.)),())"), ("#", "'#'"), (("a,b", ")"), "('a,b',')')"),
                            (COIN, "(2,((((1,2),0),((1,2),0))))")):
            self.check_both(thing, text)

    def test_all_signs(self):
        for sign in SIGNS:
            self.check_both(sign, "'~" + sign + "'" if sign in "~'" else "'" + sign + "'")
        self.check_both(SIGNS, "'" + SIGNS.replace("~", "~~").replace("'", "~'") + "'")
        self.check_both(SIGNS * 200, "'" + (SIGNS.replace("~", "~~").replace("'", "~'")) * 200 + "'")

    def test_thirty_digits_and_one_more(self):
        for thing in (10 ** 29, 10 ** 30 - 1, 123456789012345678901234567890):
            self.check_both(thing, str(thing))
            self.check_both(-thing, str(-thing))
            self.check_both((thing, (-thing,)), f"({thing},({-thing}))")
        for thing in (10 ** 30, 10 ** 30 + 1, 10 ** 31, 10 ** 4000, 10 ** 5000):
            for wrong in (thing, -thing, (thing,), (1, (-thing, 2))):
                with Unchanged(self, *(() if thing == 10 ** 5000 else (wrong,))), self.assertRaises(NoThing):
                    thing_text(wrong)

    def test_thirty_tuples_deep_and_one_more(self):
        self.check_both(nested("tuple", 30), "(" * 30 + "0" + ")" * 30)
        thing = ()
        for _ in range(29):
            thing = (1, thing, None)
        self.check_both(thing, "(1," * 29 + "()" + ",.)" * 29)
        for wrong in ((thing,), (1, thing), nested("tuple", 31), (nested("tuple", 30), 0)):
            with self.assertRaises(NoThing):
                thing_text(wrong)
        for right in ((thing[1],) * 50, ((nested("tuple", 28),),) * 2):
            self.check_both(right, text_of(right))

    def test_no_things(self):
        for thing in NO_THINGS:
            for function in (thing_text, sealed):
                with Unchanged(self, thing), self.assertRaises(NoThing):
                    function(thing)

    def test_read_again(self):
        dice = random.Random(18)
        texts = {}
        for _ in range(3000):
            thing = some_thing(dice, dice.choice([1, 2, 3, 5, 30]))
            text = text_of(thing)
            self.assertEqual(thing_text(thing), text)
            self.assertEqual(read_thing(text), thing)
            self.assertEqual(texts.setdefault(text, thing), thing)
        self.assertGreater(len(texts), 1000)


class Spoiled(unittest.TestCase):
    def check_bad(self, text, place):
        with self.assertRaises(BadText) as caught:
            read_thing(text)
        self.assertEqual(caught.exception.place, place, text)

    def test_by_hand(self):
        for text, place in (("", 0), ("-", 1), ("-0", 1), ("--1", 1), ("-a", 1), ("01", 1), ("00", 1), ("0-", 1), ("+1", 0),
                            (" 1", 0), ("1 ", 1), ("1-", 1), ("12a", 2), ("-12-", 3), ("1.", 1), ("..", 1), (".1", 1),
                            ("a", 0), (",", 0), (")", 0), ("~", 0), ("#", 0), ("1,2", 1), ("1)", 1), ("()(", 2), ("())", 2),
                            ("(", 1), ("(1", 2), ("(1,", 3), ("(1,)", 3), ("(,", 1), ("(,1)", 1), ("(1,,2)", 3), ("(1 ,2)", 2),
                            ("(1, 2)", 3), ("(01)", 2), ("(-)", 2), ("(-0)", 2), ("((", 2), ("(()", 3), ("(1)2", 3),
                            ("(1(2))", 2), ("(''1)", 3), ("(.())", 2), ("'", 1), ("'a", 2), ("'~", 2), ("'~a'", 2), ("'~~", 3),
                            ("'~'", 3), ("'a'b", 3), ("'a''", 3), ("'a\n'", 2), ("\n", 0), ("1\n", 1), ("'~\n'", 2), ("(\n)", 1),
                            ("None", 0), ("True", 0), ("[]", 0), ('"a"', 0), ("1e1", 1), ("1_0", 1)):
            self.check_bad(text, place)
            self.assertEqual(spoiled_at(text), place, text)

    def test_other_signs(self):
        for sign in "\t\r\x00\x1f\x7f\x80\xa0\xe9\xb2\u0661\u20ac":
            self.check_bad(sign, 0)
            self.check_bad("1" + sign, 1)
            self.check_bad("-" + sign, 1)
            self.check_bad("(1" + sign, 2)
            self.check_bad("'a" + sign + "'", 2)
            self.check_bad("'~" + sign + "'", 2)

    def test_digits_and_depth(self):
        for ahead in ("", "-", "(", "(1,-", "((('a',"):
            at = len(ahead)
            digits = "1234567890" * 3
            self.check_bad(ahead + digits + "0", at + 30)
            self.check_bad(ahead + digits + "99999)", at + 30)
            self.check_bad(ahead + "9" * 31, at + 30)
            self.check_bad(ahead + "9" * 19000, at + 30)
        self.check_bad("(" * 31, 30)
        self.check_bad("(" * 30, 30)
        self.check_bad("(" * 19000, 30)
        self.check_bad("(" * 31 + "0" + ")" * 31, 30)
        self.check_bad("(" * 30 + "1,(", 32)
        self.check_bad("(" * 30 + "1,())", 32)
        self.check_bad("(" * 29 + "(),((", 33)
        self.assertEqual(read_thing("(" * 29 + "(),()" + ")" * 29)[0], nested_pair(28))

    def test_no_strings(self):
        for thing in NO_TEXTS:
            with Unchanged(self, thing):
                self.check_bad(thing, -1)

    def test_all_short_texts(self):
        signs = "(),'~.-01\n"
        texts = [""]
        for _ in range(5):
            texts = [text + sign for text in texts for sign in signs]
            for text in texts:
                self.check_text(text)

    def check_text(self, text):
        place = spoiled_at(text)
        try:
            thing = read_thing(text)
        except BadText as error:
            self.assertEqual(error.place, place, text)
        else:
            self.assertIsNone(place, text)
            self.assertEqual(text_of(thing), text)

    def test_texts_with_signs_exchanged(self):
        dice = random.Random(181)
        for _ in range(1500):
            text = text_of(some_thing(dice, dice.choice([2, 3, 30])))
            for _ in range(dice.randint(1, 2)):
                place = dice.randrange(len(text) + 1)
                sign = dice.choice(["", "(", ")", ",", "'", "~", ".", "-", "0", "7", "\n"])
                text = text[:place] + sign + text[place + dice.randint(0, 1):]
            self.check_text(text)

    def test_texts_that_end_too_soon(self):
        thing = (0, (-12, ("x~'", None)), (), "a'", 10 ** 29)
        text = text_of(thing)
        for many in range(len(text)):
            self.check_bad(text[:many], many)
            for sign in SIGNS:
                self.check_text(text[:many] + sign + text[many:])


def nested_pair(deep):
    """A tuple whose innermost tuple has two empty ones."""
    thing = ((), ())
    for _ in range(deep - 1):
        thing = (thing,)
    return thing


class Checks(unittest.TestCase):
    def test_by_hand(self):
        for text, number in (("", 0), ("\n", 0), (" ", 1), ("!", 2), ("~", 95), ("  ", 3), ("\n ", 2), (" \n", 1), ("!!", 6),
                             ("~~", 285), ("0", 17), ("a", 66), ("ab", 66 + 2 * 67), ("\n\n~", 285)):
            self.assertEqual(check(text), number, text)

    def test_as_described(self):
        dice = random.Random(182)
        for many in (1, 2, 10, 46, 47, 200, 1000, 20000):
            for _ in range(5):
                text = "".join(dice.choice(SIGNS + "\n\n") for _ in range(many))
                number = sum((place + 1) * (0 if sign == "\n" else SIGNS.index(sign) + 1) for place, sign in enumerate(text))
                self.assertEqual(check(text), number % 99991)
        self.assertEqual(check("~" * 46), 95 * 23 * 47 % 99991)
        self.assertEqual(check(" " * 446), 446 * 447 // 2 % 99991)
        self.assertEqual(check(" " * 447), 447 * 448 // 2 % 99991)
        self.assertEqual(check("\n" * 19999 + " "), 20000)

    def test_no_text(self):
        for thing in NO_TEXTS + ["\t", "a\r", "\x00", "\x7f", "\xe9", "a\x1fb", "\u20ac"]:
            with Unchanged(self, thing), self.assertRaises(NoText):
                check(thing)


class Sealed(unittest.TestCase):
    def test_by_hand(self):
        self.assertEqual(sealed(0), "0#17")
        self.assertEqual(sealed(None), ".#15")
        self.assertEqual(sealed("a"), "'a'#" + str(8 + 2 * 66 + 3 * 8))
        self.assertEqual(sealed(()), "()#" + str(9 + 2 * 10))
        self.assertEqual(unsealed("0#17"), (0,))
        self.assertEqual(unsealed(".#15"), (None,))
        self.assertEqual(unsealed("()#29"), ((),))
        self.assertEqual(unsealed(sealed("#")), ("#",))
        self.assertEqual(unsealed(sealed(("#17", "0#17"))), (("#17", "0#17"),))

    def test_as_described(self):
        dice = random.Random(183)
        for _ in range(1500):
            thing = some_thing(dice, dice.choice([0, 1, 2, 30]))
            text = text_of(thing)
            self.assertEqual(sealed(thing), f"{text}#{check(text)}")
            with Unchanged(self, thing):
                self.assertEqual(unsealed(sealed(thing)), (thing,))
        deep = nested("tuple", 30)
        self.assertEqual(unsealed(sealed(deep)), (deep,))
        self.assertEqual(unsealed(sealed(10 ** 30 - 1)), (10 ** 30 - 1,))

    def test_not_sealed(self):
        for text in ("", "#", "0", "0#", "#17", "0#16", "0#18", "0#017", "0#+17", "0# 17", "0#17 ", " 0#17", "0#17#", "0#17#17",
                     "0##17", "0#-17", "0#17\n", "0#100008", "0#-99974", "00#51", "01#53", "-0#48", "0\n#17", "'a#1", "()#29.",
                     "(#9", "()#019", "'a\n'#" + str(check("'a\n'")), "(1,)#" + str(check("(1,)")), "#0", "#" * 20000,
                     "(" * 31 + ")" * 31 + "#" + str(check("(" * 31 + ")" * 31)), "1" * 31 + "#" + str(check("1" * 31)),
                     "0#\xb97", "0#17.0"):
            self.assertEqual(unsealed(text), (), text)
        for thing in NO_TEXTS + [0, ("0#17",), ["0#17"]]:
            with Unchanged(self, thing):
                self.assertEqual(unsealed(thing), ())

    def test_a_sign_exchanged_left_out_or_two_neighbours_exchanged(self):
        dice = random.Random(184)
        things = [0, None, "", "a#b~'", (), ("row", (0, 1, 1, 0)), (12345, ("machine", COIN)), (99990, ("area", 10 ** 30 - 1)),
                  "#17", ("'", "~~", "#", -1)] + [some_thing(dice, 3) for _ in range(10)]
        for thing in things:
            text = sealed(thing)
            self.assertEqual(unsealed(text[:-1]), ())
            for place in range(len(text)):
                for sign in SIGNS + "\n":
                    if sign != text[place]:
                        self.assertEqual(unsealed(text[:place] + sign + text[place + 1:]), (), (text, place, sign))
            for place in range(len(text) - 1):
                if text[place] != text[place + 1]:
                    other = text[:place] + text[place + 1] + text[place] + text[place + 2:]
                    self.assertEqual(unsealed(other), (), (text, place))

    def test_long_sealed_texts(self):
        dice = random.Random(185)
        for thing in ("".join(dice.choice(SIGNS) for _ in range(9000)), tuple(dice.randrange(4) for _ in range(9000))):
            text = sealed(thing)
            self.assertEqual(unsealed(text), (thing,))
            self.assertEqual(unsealed(text[:-1]), ())
            for _ in range(30):
                place = dice.randrange(len(text) - 1)
                sign = dice.choice(SIGNS.replace(text[place], ""))
                self.assertEqual(unsealed(text[:place] + sign + text[place + 1:]), ())
                if text[place] != text[place + 1]:
                    self.assertEqual(unsealed(text[:place] + text[place + 1] + text[place] + text[place + 2:]), ())


if __name__ == "__main__":
    unittest.main()
