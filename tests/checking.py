"""What many tests ask."""

import unittest

ALPHABETS = ["a", "z", "0", "ab", "0a", "abc", "09az", "01234", "abcdef", "0123yz"]
NO_ALPHABETS = [
    "", "abcdefg", "0123456", "aa", "aba", "abb", "ba", "a0", "z9", "acb", "A", "aB", "Ab", " ", "a ", " a", "a b",
    "\n", "a\n", "ab\n", "\na", "-", "a-", "_", "a{", "`a", "/0", "0:", "ABC", "{", "0123456789abcdefghijklmnopqrstuvwxyz",
]
STRANGE = [" ", "\n", "A", "-", "_", "~", "`", "{", "/", ":", "c", "z", "1", "9"]


class Checked(unittest.TestCase):
    """A test case with a few questions more."""

    def refused(self, error, call, *args, **fields):
        """The call raises just this error, and its fields have just these values."""
        try:
            answer = call(*args)
        except ValueError as caught:
            self.assertIs(type(caught), error, f"instead of {error.__name__} for {told(args)}")
            self.assertEqual({name: getattr(caught, name) for name in fields}, fields)
            for name, value in fields.items():
                self.assertIs(type(getattr(caught, name)), type(value))
        else:
            self.fail(f"no {error.__name__} but {told(answer)} for {told(args)}")

    def same(self, one, two):
        """The values are equal and of the same types at every level."""
        self.assertEqual(one, two)
        self.assertEqual(shape(one), shape(two))

    def plain(self, value):
        """The value consists of tuples, strings and whole numbers at every level."""
        if isinstance(value, tuple):
            for item in value:
                self.plain(item)
        else:
            self.assertIn(type(value), (str, int))


def told(value):
    """The beginning of a value in writing, where Python can write it."""
    try:
        return repr(value)[:300]
    except ValueError:
        return "values with a number that is too long"


def shape(value):
    """The types of a value and of all that it contains."""
    if isinstance(value, (list, tuple)):
        return [type(value).__name__] + [shape(item) for item in value]
    return type(value).__name__
