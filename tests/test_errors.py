"""The errors and their fields (0.3)."""

import copy
import pickle
import unittest

from hourcards import errors
from hourcards.errors import HourError
from tests.samples import ODD, name_of

FIELDS = {
    "BadWeb": ["part"], "NoRoad": [], "BadDay": ["part"], "NoTick": [], "NoLetters": [], "NoRanks": [],
    "NoHolds": [], "NoNumbers": [], "NoNumber": [], "OtherWeb": [], "NoLot": [], "NoSort": [], "NoHours": [],
    "NotEnough": ["place"], "NoCard": [], "NothingDone": [], "NoCards": [], "NoPlace": [], "TooMany": ["most"],
    "NoHomes": [], "NoChoice": ["road", "at"], "NotPlain": [], "NoPlan": [], "NoGap": [], "NotRooted": [],
    "NoPrices": [], "BadText": ["line"], "NoLine": [], "NoName": ["name"],
}


class Errors(unittest.TestCase):

    def test_the_root_derives_directly_from_value_error(self):
        self.assertEqual(HourError.__bases__, (ValueError,))
        self.assertEqual(HourError.__module__, "hourcards.errors")

    def test_each_derives_directly_from_the_root(self):
        for name in FIELDS:
            with self.subTest(name):
                found = getattr(errors, name)
                self.assertEqual(found.__bases__, (HourError,))
                self.assertEqual(found.__module__, "hourcards.errors")

    def test_there_are_no_others(self):
        found = [name for name, thing in vars(errors).items() if isinstance(thing, type)]
        self.assertEqual(sorted(found), sorted(list(FIELDS) + ["HourError"]))

    def test_they_keep_their_fields_whatever_is_passed(self):
        for name, fields in FIELDS.items():
            for thing in ODD + [0, 10 ** 39, 10 ** 6000, (), [], {}, ("fork", 0, 1)]:
                with self.subTest(name):
                    told = [thing] + ["second"] * (len(fields) - 1) if fields else []
                    made = getattr(errors, name)(*told)
                    self.assertEqual(sorted(vars(made)), sorted(fields))
                    for field, value in zip(fields, told):
                        self.assertIs(getattr(made, field), value)

    def test_they_take_no_more_and_no_less(self):
        for name, fields in FIELDS.items():
            for many in range(4):
                if many != len(fields):
                    with self.subTest(name, many=many), self.assertRaises(TypeError):
                        getattr(errors, name)(*["x"] * many)

    def test_the_order_of_two_fields(self):
        made = errors.NoChoice(3, 17)
        self.assertEqual((made.road, made.at), (3, 17))

    def test_they_are_raised_and_caught(self):
        for name, fields in FIELDS.items():
            with self.subTest(name), self.assertRaises(HourError):
                raise getattr(errors, name)(*fields)

    def test_they_are_copied_with_their_fields(self):
        for name, fields in FIELDS.items():
            made = getattr(errors, name)(*fields)
            for other in (copy.copy(made), pickle.loads(pickle.dumps(made))):
                with self.subTest(name):
                    self.assertEqual(vars(other), vars(made))

    def test_they_are_equal_to_nothing_of_another_class_or_kind(self):
        for name, fields in FIELDS.items():
            made = getattr(errors, name)(*fields)
            for thing in ODD + fields + [tuple(fields), 0]:
                with self.subTest(name, thing=name_of(thing)):
                    self.assertFalse(made == thing)


if __name__ == "__main__":
    unittest.main()
