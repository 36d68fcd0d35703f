"""The error classes of unpressed/errors.py."""

import unittest

from unpressed import errors

FIELDS = {
    "BadAlphabet": ["alphabet"], "BadLetter": ["index"], "BadRow": ["index"], "BadTail": ["tail"],
    "BadRank": ["rank"], "NotBits": ["index"], "BadNumber": ["index"], "ShortStream": ["index"],
    "BadIndex": ["index"], "BadStanding": ["standing"], "BadRule": ["standing", "letter"],
    "BadBet": ["standing"], "AlphabetsDiffer": ["one", "two"], "DoesNotComeBack": ["one", "two"],
    "TooLarge": ["number"], "NotWritten": ["index"], "NoSuchText": ["last"], "NotInstant": ["standing"],
    "ZeroStake": ["standing", "letter"], "BadName": ["name"], "NameTaken": ["name"], "NoName": ["name"],
    "BadLine": ["index"],
}
VALUES = [0, 7, -1, 10 ** 30, -(10 ** 6000), "", "a", "no alphabet\n", "{", True, False, None]


class ErrorClasses(unittest.TestCase):
    def test_press_error_is_a_value_error(self):
        self.assertEqual(errors.PressError.__bases__, (ValueError,))

    def test_there_are_no_others(self):
        found = [name for name, value in vars(errors).items()
                 if isinstance(value, type) and issubclass(value, errors.PressError)]
        self.assertEqual(sorted(found), sorted([*FIELDS, "PressError"]))

    def test_each_is_a_direct_subclass(self):
        for name in FIELDS:
            self.assertEqual(getattr(errors, name).__bases__, (errors.PressError,))
            self.assertEqual(getattr(errors, name).__module__, "unpressed.errors")

    def test_one_field_for_each_parameter_by_position(self):
        for name, fields in FIELDS.items():
            for value in VALUES:
                given = [value, "second"][:len(fields)]
                error = getattr(errors, name)(*given)
                for field, worth in zip(fields, given):
                    self.assertIs(getattr(error, field), worth)
                self.assertEqual(list(vars(error)), fields)

    def test_one_field_for_each_parameter_by_name(self):
        for name, fields in FIELDS.items():
            given = {field: f"value of {field}" for field in fields}
            error = getattr(errors, name)(**given)
            self.assertEqual(vars(error), given)

    def test_second_fields_take_all_values_too(self):
        for name, fields in FIELDS.items():
            if len(fields) == 2:
                for value in VALUES:
                    error = getattr(errors, name)(0, value)
                    self.assertIs(getattr(error, fields[1]), value)

    def test_all_of_them_can_be_written_out(self):
        for name, fields in FIELDS.items():
            for value in VALUES:
                error = getattr(errors, name)(*[value] * len(fields))
                self.assertIsInstance(str(error) + repr(error), str)

    def test_each_is_caught_as_press_error_and_as_value_error(self):
        for name, fields in FIELDS.items():
            for base in (errors.PressError, ValueError):
                with self.assertRaises(base):
                    raise getattr(errors, name)(*[0] * len(fields))


if __name__ == "__main__":
    unittest.main()
