"""[4], [20]: the error classes."""

import unittest

from ownlog import errors
from ownlog.errors import OwnError
from tests.helper import Stubborn

FIELDS = {
    "Wrong": ["place"], "NoPlace": ["place"], "NoCall": ["at"], "TooLong": ["limit"], "TooMany": ["limit"],
    "NoNumber": ["number"], "NoLetter": ["at"], "NotCalled": ["many"], "NoElder": [], "Several": ["many"],
    "EqualEnds": [], "NoTwins": ["at"], "TooShort": [], "NoText": ["at"], "NoBook": [], "NoCommand": [],
}


class Errors(unittest.TestCase):

    def test_own_error_is_a_value_error_made_of_one_text(self):
        self.assertEqual(OwnError.__bases__, (ValueError,))
        self.assertEqual(str(OwnError("told")), "told")
        for arguments in [(), ("a", "b")]:
            with self.assertRaises(TypeError):
                OwnError(*arguments)

    def test_each_class_is_a_direct_subclass(self):
        for name in FIELDS:
            self.assertEqual(getattr(errors, name).__bases__, (OwnError,), name)

    def test_there_are_no_other_classes(self):
        found = [name for name, value in vars(errors).items() if isinstance(value, type)]
        self.assertEqual(sorted(found), sorted(list(FIELDS) + ["OwnError"]))

    def test_the_arguments_themselves_are_kept(self):
        things = [0, -1, 7, 10 ** 5000, True, None, "", "text", b"x", [], [[1], {}], (), {}, {"a": []}, set(),
                  object(), Stubborn(), OwnError, len, 1.5]
        for name, fields in FIELDS.items():
            for thing in things:
                arguments = [thing] * len(fields)
                error = getattr(errors, name)(*arguments)
                for field in fields:
                    self.assertIs(getattr(error, field), thing, name)

    def test_errors_take_as_many_arguments_as_they_have_fields(self):
        for name, fields in FIELDS.items():
            for many in (0, 1, 2):
                if many != len(fields):
                    with self.assertRaises(TypeError):
                        getattr(errors, name)(*[1] * many)

    def test_errors_can_be_raised_and_shown(self):
        for name, fields in FIELDS.items():
            made = getattr(errors, name)
            with self.assertRaises(OwnError) as caught:
                raise made(*[Stubborn()] * len(fields))
            self.assertIs(type(caught.exception), made)
            self.assertIsInstance(str(caught.exception), str)
            self.assertIsInstance(caught.exception, ValueError)

    def test_a_field_is_the_argument_and_no_copy(self):
        kept = [1]
        error = errors.NoPlace(kept)
        kept.append(2)
        self.assertEqual(error.place, [1, 2])


if __name__ == "__main__":
    unittest.main()
