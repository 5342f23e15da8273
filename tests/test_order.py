"""Points 7, 15 and 16, and the paragraph at the head of the module order."""

import unittest

from tests import helpers
from tests.helpers import CLASHING, MISSING, S
from topmatches import errors
from topmatches.order import children_of, is_before, parent_of, reason_for, words_above, words_below
from topmatches.screens import is_clash

OF_TWO_WORDS = [is_before, reason_for]
OF_ONE_WORD = [words_above, words_below, parent_of, children_of]
UNKNOWN = [value for value in helpers.NOT_WORDS if value is not None] + ["cow", "ca", "cars", "xa", "c", "do", "a" * 30]


def calls(screens, word, other):
    """All functions of the module with these arguments, without arguments yet."""
    found = [(function, (screens, word, other)) for function in OF_TWO_WORDS]
    return found + [(function, (screens, word)) for function in OF_ONE_WORD]


class OrderTest(unittest.TestCase):
    def test_is_before(self):
        pairs = {("car", "cat"), ("car", "dog"), ("car", "dot"), ("dog", "cat"), ("dog", "dot")}
        for word in ["car", "cat", "dog", "dot"]:
            for other in ["car", "cat", "dog", "dot"]:
                self.assertIs(is_before(S, word, other), (word, other) in pairs)

    def test_shown_words_stand_before_those_not_shown(self):
        screens = [("c", 1, ["car"]), ("ca", 2, ["car", "cat"]), ("d", 1, ["dog"])]
        self.assertIs(is_before(screens, "car", "cat"), True)
        self.assertIs(is_before(screens, "cat", "car"), False)
        self.assertIs(is_before(screens, "car", "dog"), False)
        self.assertIs(is_before(screens, "dog", "car"), False)

    def test_reason_is_the_least_number(self):
        self.assertEqual(reason_for(S, "car", "cat"), 0)
        self.assertEqual(reason_for(S[1:], "car", "cat"), 0)
        self.assertEqual(reason_for(S[::-1], "car", "cat"), 1)
        self.assertEqual(reason_for(S[::-1], "dog", "dot"), 0)
        self.assertEqual(reason_for(S[::-1], "dog", "cat"), 2)
        self.assertIsNone(reason_for(S, "cat", "car"))
        self.assertIsNone(reason_for(S, "dot", "cat"))

    def test_reason_in_screens_that_stand_twice(self):
        screens = [("x", 1, [])] * 18 + [("", 2, ["a", "b"])] * 2
        self.assertEqual(reason_for(screens, "a", "b"), 18)
        self.assertIsNone(reason_for(screens, "b", "a"))

    def test_no_word_is_before_itself(self):
        for word in ["car", "cat", "dog", "dot"]:
            self.assertIs(is_before(S, word, word), False)
            self.assertIsNone(reason_for(S, word, word))

    def test_words_above_and_below(self):
        self.assertEqual(words_above(S, "car"), [])
        self.assertEqual(words_above(S, "dog"), ["car"])
        self.assertEqual(words_above(S, "cat"), ["car", "dog"])
        self.assertEqual(words_below(S, "car"), ["cat", "dog", "dot"])
        self.assertEqual(words_below(S, "cat"), [])

    def test_words_above_stand_in_their_own_order(self):
        screens = [("ab", 2, ["abx", "aba"]), ("a", 2, ["az", "ax"]), ("", 3, ["z", "az", "b"])]
        for ordered in [screens, screens[::-1], screens[1:] + screens[:1]]:
            self.assertEqual(words_above(ordered, "aba"), ["z", "az", "b", "ax", "abx"])
            self.assertEqual(words_above(ordered, "ax"), ["z", "az", "b"])
            self.assertEqual(words_below(ordered, "b"), ["aba", "abx", "ax"])
            self.assertEqual(words_below(ordered, "z"), ["aba", "abx", "ax", "az", "b"])

    def test_parent_and_children(self):
        self.assertEqual([parent_of(S, word) for word in ["car", "dog", "cat", "dot"]], [None, "car", "dog", "dog"])
        self.assertEqual(children_of(S), ["car"])
        self.assertEqual(children_of(S, None), ["car"])
        self.assertEqual(children_of(S, "car"), ["dog"])
        self.assertEqual(children_of(S, "cat"), [])
        self.assertEqual(children_of([("d", 2, ["dot", "dog"]), ("c", 1, ["car"])]), ["car", "dot"])

    def test_one_word(self):
        screens = [("", 1, ["a"])]
        self.assertEqual([words_above(screens, "a"), words_below(screens, "a")], [[], []])
        self.assertEqual([parent_of(screens, "a"), children_of(screens), children_of(screens, "a")], [None, ["a"], []])

    def test_no_words(self):
        for screens in [[], [("", 1, [])], [("x", 20, [])] * 20]:
            self.assertEqual(children_of(screens), [])
            for function, arguments in calls(screens, "a", "a"):
                self.assertRaises(errors.UnknownWord, function, *arguments)

    def test_a_limit_of_20(self):
        letters = list("abcdefghijklmnopqrst")
        screens = [("", 20, letters[::-1])] * 20
        self.assertEqual(words_above(screens, "a"), letters[:0:-1])
        self.assertEqual(words_below(screens, "t"), letters[:-1])
        for number in range(19):
            self.assertEqual(parent_of(screens, letters[number]), letters[number + 1])
            self.assertEqual(children_of(screens, letters[number + 1]), [letters[number]])

    def test_400_words_side_by_side(self):
        screens = helpers.wide_screens()
        self.assertEqual(children_of(screens), [screen[2][0] for screen in screens])
        self.assertEqual(words_above(screens, screens[7][2][19]), screens[7][2][:19])
        self.assertEqual(words_below(screens, screens[19][2][0]), screens[19][2][1:])
        self.assertIs(is_before(screens, screens[0][2][0], screens[1][2][1]), False)

    def test_400_words_in_one_row(self):
        screens = helpers.deep_screens()
        row = [word for screen in screens for word in screen[2]]
        for ordered in [screens, screens[::-1]]:
            self.assertEqual(words_above(ordered, row[399]), row[:399])
            self.assertEqual(words_below(ordered, row[0]), sorted(row[1:20] + row[20:]))
            self.assertEqual(parent_of(ordered, row[200]), row[199])
            self.assertEqual(children_of(ordered, row[200]), [row[201]])
            self.assertEqual(children_of(ordered), [row[0]])
        self.assertEqual(reason_for(screens, row[0], row[399]), 0)
        self.assertEqual(reason_for(screens, row[398], row[399]), 19)


class WrongValuesTest(unittest.TestCase):
    def test_not_screens(self):
        for value in helpers.NOT_SCREEN_LISTS:
            for function, arguments in calls(value, "car", None):
                with self.subTest(value=value, function=function):
                    with self.assertRaises(errors.InvalidScreens) as caught:
                        function(*arguments)
                    self.assertIs(type(caught.exception), errors.InvalidScreens)

    def test_clash(self):
        short = [("", 20, ["a"]), ("b", 1, ["b"]), ("x", 1, [])]
        for screens in [CLASHING, CLASHING[::-1], MISSING, MISSING[::-1], S + CLASHING, short, CLASHING * 10]:
            for function, arguments in calls(screens, "unknown", None) + calls(screens, "car", "dog"):
                with self.subTest(screens=screens, function=function):
                    with self.assertRaises(errors.ScreensClash) as caught:
                        function(*arguments)
                    self.assertIs(type(caught.exception), errors.ScreensClash)
                    self.assertIs(is_clash(screens, caught.exception.clash), True)
                    self.assertIn(caught.exception.clash, helpers.all_clashes(screens))

    def test_unknown_words(self):
        for value in UNKNOWN:
            for function, arguments in calls(S, value, "car") + calls(S, "car", value)[:2] + calls(S, value, value):
                with self.subTest(value=value, function=function):
                    with self.assertRaises(errors.UnknownWord) as caught:
                        function(*arguments)
                    self.assertIs(type(caught.exception), errors.UnknownWord)

    def test_none_is_allowed_for_children_only(self):
        for function, arguments in calls(S, None, "car")[:-1] + calls(S, "car", None)[:2]:
            self.assertRaises(errors.UnknownWord, function, *arguments)
        self.assertEqual(children_of(S, None), ["car"])


if __name__ == "__main__":
    unittest.main()
