"""What the tests of all modules share."""

import unittest

from wirewatch.errors import WireError
from wirewatch.words import Word


def kinds(value):
    """The value with the class of each part, so that True does not pass for 1."""
    if isinstance(value, (tuple, list)):
        return type(value), tuple(kinds(part) for part in value)
    if isinstance(value, dict):
        return dict, {key: kinds(part) for key, part in value.items()}
    if isinstance(value, Word):
        return Word, kinds(value.width), kinds(value.value)
    return type(value), value


class CheckCase(unittest.TestCase):
    maxDiff = None

    def same(self, found, due):
        """The values are equal, and their parts are of the same classes."""
        self.assertEqual(kinds(found), kinds(due))

    def fails(self, due, call, *args, **options):
        """The call raises an error of the class and with the attributes of `due`."""
        with self.assertRaises(WireError) as caught:
            call(*args, **options)
        self.assertIs(type(caught.exception), type(due))
        self.same(vars(caught.exception), vars(due))
