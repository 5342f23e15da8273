"""Point 29."""

import inspect
import unittest

from topmatches import errors

NAMES = [
    "InvalidDictionary", "InvalidBeginning", "InvalidLimit", "InvalidScreen", "InvalidScreens", "ScreensClash",
    "UnknownWord", "InvalidNumber", "NotRanking", "InvalidList", "NoMatch", "NotAnswer", "InvalidIndex",
    "NotebookFull", "NothingToUndo", "InvalidText", "InvalidCommand",
]
CLASH = ("order", 0, 1, "dog", "car")


class ErrorsTest(unittest.TestCase):
    def test_the_base_is_a_value_error(self):
        self.assertEqual(errors.TopMatchesError.__bases__, (ValueError,))
        self.assertEqual(str(errors.TopMatchesError("told")), "told")

    def test_the_others_are_its_direct_subclasses(self):
        for name in NAMES:
            error = getattr(errors, name)
            self.assertEqual(error.__bases__, (errors.TopMatchesError,))
            self.assertEqual(error.__module__, "topmatches.errors")
            self.assertEqual(error.__name__, name)

    def test_there_are_no_others(self):
        found = [name for name, value in vars(errors).items() if inspect.isclass(value)]
        self.assertEqual(sorted(found), sorted(NAMES + ["TopMatchesError"]))

    def test_a_message(self):
        for name in NAMES:
            if name not in ("ScreensClash", "InvalidText"):
                self.assertEqual(str(getattr(errors, name)("told")), "told")

    def test_screens_clash(self):
        self.assertEqual(errors.ScreensClash(CLASH).clash, CLASH)
        self.assertEqual(errors.ScreensClash(clash=CLASH).clash, CLASH)
        self.assertRaises(TypeError, errors.ScreensClash)
        self.assertIsInstance(str(errors.ScreensClash(CLASH)), str)

    def test_invalid_text(self):
        self.assertEqual(errors.InvalidText(3).line, 3)
        self.assertEqual(errors.InvalidText(line=0).line, 0)
        self.assertIsNone(errors.InvalidText(None).line)
        self.assertIsNone(errors.InvalidText().line)

    def test_each_can_be_raised_and_caught(self):
        for name in NAMES:
            error = getattr(errors, name)
            with self.assertRaises(ValueError) as caught:
                raise error("told")
            self.assertIs(type(caught.exception), error)


if __name__ == "__main__":
    unittest.main()
