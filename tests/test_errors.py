"""Point 5: the errors."""

import inspect
import unittest

import keptmisses.errors as errors
from keptmisses.errors import BadText, MissError, TooMany
from samples import ODDS_AND_ENDS, nested

PLAIN = """NoSize NoMachine NoRow NoChances NoWorths NoChancer NoState NotKept NoLetter NothingRead NoFraction Held
NoGuessing OtherSize NoBound NoLetters NoPart NoCircle NoNumber NoText NoArea NoStand NoThing NoItems NoDeed Down
NotDown""".split()
FIELDS = {"TooMany": "most", "BadText": "place"}


class Errors(unittest.TestCase):
    def all_but_the_base(self):
        return [getattr(errors, name) for name in PLAIN + list(FIELDS)]

    def test_there_are_just_these_classes(self):
        found = [name for name, thing in vars(errors).items() if inspect.isclass(thing)]
        self.assertEqual(sorted(found), sorted(PLAIN + list(FIELDS) + ["MissError"]))
        self.assertEqual(len(found), 30)

    def test_the_base_is_a_value_error(self):
        self.assertEqual(MissError.__bases__, (ValueError,))
        self.assertIsInstance(MissError(), ValueError)

    def test_each_derives_from_the_base_alone(self):
        for kind in self.all_but_the_base():
            self.assertEqual(kind.__bases__, (MissError,), kind)
            self.assertEqual(kind.__module__, "keptmisses.errors")

    def test_none_is_a_subclass_of_another_one(self):
        kinds = self.all_but_the_base()
        self.assertEqual(len(kinds), 29)
        for one in kinds:
            self.assertFalse(issubclass(MissError, one))
            for other in kinds:
                self.assertEqual(issubclass(one, other), one is other, (one, other))

    def test_those_without_a_field_take_nothing(self):
        for name in PLAIN + ["MissError"]:
            kind = getattr(errors, name)
            for caught in (kind, MissError, ValueError):
                with self.assertRaises(caught) as held:
                    raise kind()
                self.assertIs(type(held.exception), kind)

    def test_a_field_keeps_whatever_it_is(self):
        values = ODDS_AND_ENDS + [400, 12, 3000, 10 ** 5000, -(10 ** 29), "x" * 20000, [0] * 20000]
        values += [nested(kind, 30) for kind in ("tuple", "list", "dict")]
        for value in values:
            self.assertIs(TooMany(value).most, value)
            self.assertIs(BadText(value).place, value)

    def test_a_field_is_there_when_it_is_caught(self):
        with self.assertRaises(MissError) as held:
            raise TooMany(400)
        self.assertEqual(held.exception.most, 400)
        with self.assertRaises(ValueError) as held:
            raise BadText(7)
        self.assertEqual(held.exception.place, 7)

    def test_two_errors_do_not_share_their_field(self):
        one = TooMany(1)
        other = TooMany(2)
        self.assertEqual((one.most, other.most), (1, 2))
        one = BadText(1)
        other = BadText(2)
        self.assertEqual((one.place, other.place), (1, 2))

    def test_a_list_is_kept_itself(self):
        value = [1]
        one = TooMany(value)
        other = BadText(value)
        self.assertEqual(value, [1])
        value.append(2)
        self.assertEqual(one.most, [1, 2])
        self.assertEqual(other.place, [1, 2])

    def test_a_field_takes_exactly_one_value(self):
        for kind in (TooMany, BadText):
            for values in ((), (1, 2)):
                with self.assertRaises(TypeError):
                    kind(*values)


if __name__ == "__main__":
    unittest.main()
