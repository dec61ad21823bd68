"""The refusals of the interface."""

import unittest

from nearkinds import errors

NAMES = [
    "NoTable", "NotSteady", "NoPlace", "NoKind", "NoMix", "NoNumber", "NoNumbers", "NoWeights", "NotWhole",
    "NoLot", "NoKinds", "NoPaper", "NoParting", "NoClosed", "TooMany", "NoText", "NoLine", "NoDeed",
]


class ErrorsTest(unittest.TestCase):
    def test_near_error_is_straight_under_value_error(self):
        self.assertEqual(errors.NearError.__bases__, (ValueError,))

    def test_all_eighteen_are_straight_under_near_error(self):
        self.assertEqual(len(set(NAMES)), 18)
        for name in NAMES:
            found = getattr(errors, name)
            self.assertEqual(found.__name__, name)
            self.assertEqual(found.__bases__, (errors.NearError,))

    def test_they_are_eighteen_classes(self):
        self.assertEqual(len({getattr(errors, name) for name in NAMES}), 18)

    def test_each_is_made_with_a_text(self):
        for name in NAMES + ["NearError"]:
            made = getattr(errors, name)("some text")
            self.assertEqual(str(made), "some text")
            self.assertEqual(made.args, ("some text",))


if __name__ == "__main__":
    unittest.main()
