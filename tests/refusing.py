"""A test case that knows how refusals are looked at."""

import copy
import unittest


class RefusalCase(unittest.TestCase):
    def refused(self, kind, call, *handed):
        """The call is refused with that class itself, made with a text, and changes nothing."""
        before = copy.deepcopy(handed)
        try:
            told = call(*handed)
        except ValueError as error:
            self.assertIs(type(error), kind, (call.__name__, handed))
            self.assertTrue(error.args and isinstance(error.args[0], str))
        else:
            self.fail(f"{call.__name__}{handed} told {told!r} and was to be refused with {kind.__name__}")
        self.assertEqual(repr(before), repr(handed))

    def told(self, expected, call, *handed):
        """The call tells just this, twice, of the same kind throughout, and changes nothing."""
        before = copy.deepcopy(handed)
        for turn in range(2):
            # The written forms are compared too, as 1 is True and 0 is False to Python.
            told = call(*handed)
            self.assertEqual(told, expected, (call.__name__, handed))
            self.assertEqual(repr(told), repr(expected), (call.__name__, handed))
        self.assertEqual(repr(before), repr(handed))
