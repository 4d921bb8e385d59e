"""What the tests of errors have in common."""

from unittest import TestCase


class Case(TestCase):
    def raised_by(self, kind, call):
        """The error that the call raises, of just this class."""
        with self.assertRaises(kind) as raised:
            call()
        self.assertIs(type(raised.exception), kind)
        return raised.exception

    def assert_given(self, kind, value, call):
        self.assertIs(self.raised_by(kind, call).given, value)

    def assert_index(self, kind, index, call):
        found = self.raised_by(kind, call).index
        self.assertEqual(found, index)
        self.assertIs(type(found), type(index))
