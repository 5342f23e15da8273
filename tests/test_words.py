"""Points 4, 11 and 12."""

import unittest

from tests import helpers
from tests.helpers import S
from topmatches import errors
from topmatches.words import answer_of, fits, is_beginning, is_word

WORDS = ["car", "dog", "cat", "do", "dot", "c"]


class KindsTest(unittest.TestCase):
    def test_words(self):
        for value in ["a", "z", "az", "car", "abcdefghijklmnopqrstuvwxyz", "z" * 30, "q" * 60]:
            self.assertIs(is_word(value), True)
            self.assertIs(is_beginning(value), True)

    def test_the_empty_string_is_a_beginning_only(self):
        self.assertIs(is_word(""), False)
        self.assertIs(is_beginning(""), True)

    def test_other_values_are_none_of_both(self):
        for value in helpers.NOT_BEGINNINGS:
            with self.subTest(value=value):
                self.assertIs(is_word(value), False)
                self.assertIs(is_beginning(value), False)


class AnswerTest(unittest.TestCase):
    def test_first_matches_in_the_order_of_the_dictionary(self):
        self.assertEqual(answer_of(WORDS, "", 3), ["car", "dog", "cat"])
        self.assertEqual(answer_of(WORDS, "c", 2), ["car", "cat"])
        self.assertEqual(answer_of(WORDS, "do", 2), ["dog", "do"])
        self.assertEqual(answer_of(WORDS, "do", 1), ["dog"])

    def test_all_matches_if_there_are_fewer(self):
        self.assertEqual(answer_of(WORDS, "d", 3), ["dog", "do", "dot"])
        self.assertEqual(answer_of(WORDS, "d", 4), ["dog", "do", "dot"])
        self.assertEqual(answer_of(WORDS, "", 20), WORDS)
        self.assertEqual(answer_of(WORDS, "x", 20), [])

    def test_a_beginning_matches_at_the_beginning_only(self):
        self.assertEqual(answer_of(["cat", "at", "tat", "ata"], "at", 20), ["at", "ata"])
        self.assertEqual(answer_of(["ca", "c", "cat"], "cat", 20), ["cat"])
        self.assertEqual(answer_of(["ca", "c", "cat"], "cats", 20), [])

    def test_no_words(self):
        self.assertEqual(answer_of([], "", 1), [])
        self.assertEqual(answer_of([], "a", 20), [])

    def test_limits_of_1_and_20(self):
        words = ["x" * size for size in range(1, 31)]
        self.assertEqual(answer_of(words, "", 1), ["x"])
        self.assertEqual(answer_of(words, "xx", 1), ["xx"])
        self.assertEqual(answer_of(words, "", 20), words[:20])
        self.assertEqual(answer_of(words, "x" * 11, 20), words[10:])
        self.assertEqual(answer_of(words, "x" * 12, 20), words[11:])
        self.assertEqual(answer_of(words, "x" * 30, 20), ["x" * 30])

    def test_400_words_of_30_letters(self):
        words = [word for screen in helpers.wide_screens() for word in screen[2]]
        self.assertEqual(len(set(words)), 400)
        self.assertEqual(answer_of(words, "t", 20), words[380:])
        self.assertEqual(answer_of(words, words[399], 1), [words[399]])

    def test_more_words_than_the_document_names(self):
        words = ["a" * size for size in range(1, 1001)]
        self.assertEqual(answer_of(words, "a" * 500, 2), words[499:501])

    def test_agrees_with_the_definition(self):
        for dictionary in helpers.sequences(["a", "ab", "b", "abc"]):
            for beginning in ["", "a", "ab", "abc", "b", "bc"]:
                for limit in [1, 2, 3, 20]:
                    expected = helpers.answer(dictionary, beginning, limit)
                    self.assertEqual(answer_of(dictionary, beginning, limit), expected)

    def test_wrong_values(self):
        for value in helpers.NOT_DICTIONARIES:
            with self.subTest(value=value), self.assertRaises(errors.InvalidDictionary) as caught:
                answer_of(value, None, None)
            self.assertIs(type(caught.exception), errors.InvalidDictionary)
        for value in helpers.NOT_BEGINNINGS:
            with self.subTest(value=value), self.assertRaises(errors.InvalidBeginning) as caught:
                answer_of(["car"], value, None)
            self.assertIs(type(caught.exception), errors.InvalidBeginning)
        for value in helpers.NOT_LIMITS:
            with self.subTest(value=value), self.assertRaises(errors.InvalidLimit) as caught:
                answer_of(["car"], "", value)
            self.assertIs(type(caught.exception), errors.InvalidLimit)

    def test_the_first_error_is_raised(self):
        with self.assertRaises(errors.InvalidDictionary):
            answer_of(["Car"], "", 0)
        with self.assertRaises(errors.InvalidDictionary):
            answer_of(["car", "car"], "C", 1)
        with self.assertRaises(errors.InvalidBeginning):
            answer_of([], "C", 21)


class FitsTest(unittest.TestCase):
    def test_all_screens_must_be_shown(self):
        self.assertIs(fits(["car", "dog", "cat", "dot"], S), True)
        self.assertIs(fits(["car", "dog", "dot", "cat", "xa"], S), True)
        self.assertIs(fits(["dog", "car", "cat", "dot"], S), False)
        self.assertIs(fits(["car", "dog", "cow", "cat", "dot"], S), False)
        self.assertIs(fits(["car", "dog", "cat", "dot", "do"], S), False)
        self.assertIs(fits([], S), False)

    def test_no_screens_and_no_words(self):
        self.assertIs(fits([], []), True)
        self.assertIs(fits(["car"], []), True)
        self.assertIs(fits([], [("", 1, []), ("x", 20, [])]), True)
        self.assertIs(fits(["car"], [("x", 20, [])]), True)
        self.assertIs(fits(["car"], [("", 1, [])]), False)

    def test_full_and_short_screens(self):
        self.assertIs(fits(["ca", "cb", "cc"], [("c", 2, ["ca", "cb"])]), True)
        self.assertIs(fits(["ca", "cb", "cc"], [("c", 3, ["ca", "cb"])]), False)
        self.assertIs(fits(["ca", "cb"], [("c", 3, ["ca", "cb"])]), True)
        self.assertIs(fits(["ca", "cb"], [("c", 3, ["cb", "ca"])]), False)

    def test_clashing_screens_are_allowed(self):
        self.assertIs(fits(["car", "dog"], helpers.CLASHING), False)
        self.assertIs(fits([], helpers.MISSING), False)

    def test_20_screens(self):
        self.assertIs(fits(["car"], [("", 1, ["car"])] * 20), True)
        self.assertIs(fits(["car"], [("", 1, ["car"])] * 19 + [("", 1, ["dog"])]), False)
        words = [word for screen in helpers.wide_screens() for word in screen[2]]
        self.assertIs(fits(words, helpers.wide_screens()), True)
        self.assertIs(fits(words[::-1], helpers.wide_screens()), False)

    def test_agrees_with_the_definition(self):
        words = ["a", "ab", "b"]
        screens = helpers.all_screens(words, ["", "a", "b", "c"], [1, 2, 3])
        for dictionary in helpers.sequences(words):
            for one in screens:
                self.assertIs(fits(dictionary, [one]), helpers.shows(dictionary, one))
                for other in screens[::7]:
                    both = helpers.shows(dictionary, one) and helpers.shows(dictionary, other)
                    self.assertIs(fits(dictionary, [one, other]), both)

    def test_wrong_values(self):
        for value in helpers.NOT_DICTIONARIES:
            with self.subTest(value=value), self.assertRaises(errors.InvalidDictionary) as caught:
                fits(value, None)
            self.assertIs(type(caught.exception), errors.InvalidDictionary)
        for value in helpers.NOT_SCREEN_LISTS:
            with self.subTest(value=value), self.assertRaises(errors.InvalidScreens) as caught:
                fits(["car"], value)
            self.assertIs(type(caught.exception), errors.InvalidScreens)


if __name__ == "__main__":
    unittest.main()
