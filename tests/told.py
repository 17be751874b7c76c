"""What the tests of every function share."""

import unittest


class KeptList(list):
    """A list that can be watched for being kept."""


class Told(unittest.TestCase):
    def assert_fraction(self, told, expected):
        self.assertIs(type(told), tuple)
        self.assertEqual([type(part) for part in told], [int, int])
        self.assertEqual(told, expected)

    def assert_refused(self, error, function, *arguments):
        try:
            told = function(*arguments)
        except Exception as e:
            self.assertIs(type(e), error)
        else:
            self.fail(f"no refusal, but an answer of {type(told)}")
