"""[0.3]: the classes of errors, and what they keep."""

import inspect
import unittest

from helping import things
from laidplates import errors

FIELDS = {
    "BadTable": ("part", "at"), "NoJournal": (), "NoDeed": (), "NoPlates": (), "NotSafe": (), "NoWorld": (),
    "NoCell": (), "NoKnot": (), "TooMany": ("most",), "NoNumber": (), "NoRun": (), "NotPlain": (), "NoLot": (),
    "NoOrder": (), "NoWeaving": (), "BadHand": ("deeds", "word"), "Stopped": (), "NoBegins": (), "NoPress": (),
    "NoKind": (), "Harms": ("cells",), "Stuck": (), "NoSweep": (), "BadText": ("line",), "Known": (), "Full": (),
    "Last": (), "InUse": (), "NothingDone": (), "NoMark": ("name",), "BadChange": ("index",), "NoPrices": (),
    "NoPrime": (), "NoLine": (), "NoName": ("name",), "NoLines": (),
}


class ErrorTests(unittest.TestCase):
    def test_the_classes_are_those_of_the_list(self):
        found = [name for name, thing in vars(errors).items() if inspect.isclass(thing)]
        self.assertEqual(sorted(found), sorted(["PlateError", *FIELDS]))

    def test_each_class_is_of_its_own_alone(self):
        self.assertEqual(errors.PlateError.__bases__, (ValueError,))
        for name in FIELDS:
            self.assertEqual(getattr(errors, name).__bases__, (errors.PlateError,), name)

    def test_fields_keep_what_was_passed(self):
        for name, fields in FIELDS.items():
            for thing in things():
                error = getattr(errors, name)(*[thing] * len(fields))
                for field in fields:
                    self.assertIs(getattr(error, field), thing, name)

    def test_fields_stand_in_their_order(self):
        for name, fields in FIELDS.items():
            error = getattr(errors, name)(*range(len(fields)))
            self.assertEqual([getattr(error, field) for field in fields], list(range(len(fields))), name)

    def test_errors_are_made_with_just_their_fields(self):
        for name, fields in FIELDS.items():
            for many in range(4):
                if many != len(fields):
                    with self.assertRaises(TypeError, msg=name):
                        getattr(errors, name)(*[0] * many)

    def test_errors_can_be_raised_and_caught(self):
        for name, fields in FIELDS.items():
            with self.assertRaises(errors.PlateError) as caught:
                raise getattr(errors, name)(*fields)
            self.assertIs(type(caught.exception), getattr(errors, name))

    def test_equal_to_nothing_else(self):
        for name, fields in FIELDS.items():
            error = getattr(errors, name)(*fields)
            for other in [*things(), fields, name, ValueError(*fields)]:
                self.assertFalse(error == other)


if __name__ == "__main__":
    unittest.main()
