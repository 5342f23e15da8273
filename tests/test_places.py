"""Points 9, 10 (e), 21 and 22."""

import unittest

from tests import helpers, universe
from tests.helpers import S, check_raises
from tests.universe import WORDS
from topmatches import errors
from topmatches.places import place_range, possible_beginning, sure_beginning

LETTERS = list("abcdefghijklmnopqrst")


def place(dictionary, beginning, word):
    """The place of the word as point 9 defines it, or None if the dictionary does not have it."""
    if word not in dictionary:
        return None
    return sum(other[:len(beginning)] == beginning for other in dictionary[:dictionary.index(word)])


def beginnings_of(word):
    return [word[:size] for size in range(len(word) + 1)]


class PlaceTest(unittest.TestCase):
    def check(self, screens, beginning, word, found, only_known):
        self.assertEqual(place_range(screens, beginning, word), found)
        self.assertEqual(place_range(screens, beginning, word, only_known=False), found)
        self.assertEqual(place_range(screens, beginning, word, only_known=True), only_known)
        self.assertIs(type(place_range(screens, beginning, word)), tuple)

    def test_places_in_the_screens_of_the_document(self):
        self.check(S, "", "car", (0, 0), (0, 0))
        self.check(S, "", "dog", (1, 1), (1, 1))
        self.check(S, "", "cat", (2, None), (2, 3))
        self.check(S, "", "dot", (2, None), (2, 3))
        self.check(S, "c", "cat", (1, 1), (1, 1))
        self.check(S, "cat", "cat", (0, 0), (0, 0))
        self.check(S, "d", "dog", (0, 0), (0, 0))
        self.check(S, "d", "dot", (1, None), (1, 1))
        self.check(S, "do", "dot", (1, 1), (1, 1))
        self.check(S, "dot", "dot", (0, 0), (0, 0))
        self.check(S[1:], "", "car", (0, None), (0, 2))
        self.check(S[1:], "", "cat", (1, None), (1, 3))

    def test_one_known_word(self):
        self.check([("", 1, ["a"])], "", "a", (0, 0), (0, 0))
        self.check([("a", 1, ["a"])], "", "a", (0, None), (0, 0))
        self.check([("a", 1, ["a"])], "a", "a", (0, 0), (0, 0))
        self.check([("a", 5, ["ab"])] * 20, "", "ab", (0, None), (0, 0))
        self.check([("a", 5, ["ab"])] * 20, "ab", "ab", (0, 0), (0, 0))

    def test_one_screen_that_shows_all(self):
        screens = [("", 20, LETTERS)]
        for number, word in enumerate(LETTERS):
            self.check(screens, "", word, (number, number), (number, number))
            self.check(screens, word, word, (0, 0), (0, 0))

    def test_no_word_above_another_one(self):
        screens = [(one, 1, [one]) for one in LETTERS]
        for word in LETTERS:
            self.check(screens, "", word, (0, None), (0, 19))
            self.check(screens, word, word, (0, 0), (0, 0))
            self.assertEqual(sure_beginning(screens, word, 20), word)
            self.assertEqual(possible_beginning(screens, word, 1), "")

    def test_words_that_do_not_match_take_no_place(self):
        screens = [("", 3, ["b", "ca", "x"]), ("c", 2, ["ca", "cb"]), ("d", 1, ["da"])]
        self.check(screens, "", "cb", (3, None), (3, 4))
        self.check(screens, "c", "cb", (1, 1), (1, 1))
        self.check(screens, "", "da", (3, None), (3, 4))
        self.check(screens, "d", "da", (0, 0), (0, 0))
        self.check(screens, "", "x", (2, 2), (2, 2))
        self.check(screens, "x", "x", (0, 0), (0, 0))

    def test_a_screen_that_stands_twice(self):
        for word in ["car", "cat", "dog", "dot"]:
            for beginning in beginnings_of(word):
                for only_known in [False, True]:
                    self.assertEqual(place_range(S + S[::-1], beginning, word, only_known=only_known),
                                     place_range(S, beginning, word, only_known=only_known))

    def test_400_words_side_by_side(self):
        screens = helpers.wide_screens()
        for beginning, _, shown in screens[::6]:
            for number, word in enumerate(shown):
                self.check(screens, "", word, (number, None), (number, 380 + number))
                self.check(screens, beginning, word, (number, number), (number, number))
                self.check(screens, word, word, (0, 0), (0, 0))

    def test_400_words_in_one_row(self):
        screens = helpers.deep_screens()
        row = [word for screen in screens for word in screen[2]]
        for number in [0, 1, 19, 20, 21, 200, 399]:
            known = (number, number) if number < 20 else (number, None)
            self.check(screens, "", row[number], known, (number, number))
            self.check(screens, row[number], row[number], (0, 0), (0, 0))
        self.check(screens, "a" * 19, row[399], (19, 19), (19, 19))
        self.check(screens, "a" * 18, row[399], (39, None), (39, 39))

    def test_rows_below_a_row(self):
        screens = helpers.branching_screens()
        self.check(screens, "", screens[5][2][3], (22, None), (22, 364))
        self.check(screens, "f", screens[5][2][3], (3, 3), (3, 3))
        self.check(screens, "", "fz", (5, 5), (5, 5))

    def test_only_known_is_passed_by_name(self):
        self.assertRaises(TypeError, place_range, S, "", "cat", True)
        self.assertEqual(place_range(screens=S, beginning="", word="cat", only_known=True), (2, 3))
        self.assertEqual(place_range(only_known=False, word="cat", beginning="", screens=S), (2, None))

    def test_words_that_do_not_match(self):
        for only_known in [False, True]:
            for beginning, word in [("d", "car"), ("cat", "car"), ("cars", "car"), ("ar", "car"), ("c" * 30, "cat")]:
                check_raises(self, errors.NoMatch, place_range, S, beginning, word, only_known=only_known)

    def test_unknown_words(self):
        for value in helpers.NOT_WORDS + ["cow", "ca", "cars", "x"]:
            for beginning in ["", "x", "c"]:
                check_raises(self, errors.UnknownWord, place_range, S, beginning, value)
        for screens in [[], [("", 1, [])], [("car", 5, [])]]:
            check_raises(self, errors.UnknownWord, place_range, screens, "", "car")


class BeginningTest(unittest.TestCase):
    def check(self, screens, word, limit, sure, possible):
        self.assertEqual(sure_beginning(screens, word, limit), sure)
        self.assertEqual(possible_beginning(screens, word, limit), possible)

    def test_beginnings_in_the_screens_of_the_document(self):
        self.check(S, "car", 1, "", "")
        self.check(S, "dog", 1, "d", "d")
        self.check(S, "dog", 2, "", "")
        self.check(S, "cat", 1, "cat", "cat")
        self.check(S, "cat", 2, "c", "c")
        self.check(S, "cat", 3, "c", "")
        self.check(S, "cat", 20, "c", "")
        self.check(S, "dot", 1, "dot", "dot")
        self.check(S, "dot", 2, "do", "d")
        self.check(S, "dot", 3, "do", "")

    def test_no_beginning(self):
        screens = [("car", 2, ["cart", "car"])]
        self.check(screens, "car", 1, None, None)
        self.check(screens, "car", 2, "car", "")
        self.check(screens, "cart", 1, "car", "")
        screens = [("", 3, ["aaa", "aa", "a"])]
        self.check(screens, "a", 2, None, None)
        self.check(screens, "a", 3, "", "")
        self.check(screens, "aa", 1, None, None)
        self.check(screens, "aa", 2, "", "")
        self.check(screens, "aaa", 1, "", "")

    def test_one_known_word(self):
        self.check([("", 20, ["abc"])], "abc", 1, "", "")
        self.check([("ab", 20, ["abc"])], "abc", 1, "ab", "")
        self.check([("abc", 1, ["abc"])], "abc", 20, "abc", "")

    def test_limits_of_1_and_20(self):
        screens = [("", 20, LETTERS)]
        for number, word in enumerate(LETTERS):
            self.check(screens, word, 20, "", "")
            self.check(screens, word, 1, word if number else "", word if number else "")
            self.check(screens, word, number + 1, "", "")

    def test_words_of_30_letters(self):
        screens = helpers.wide_screens()
        for number, word in enumerate(screens[7][2]):
            self.check(screens, word, 20, "h", "")
            self.check(screens, word, 1, word[:2] if number else "h", word[:2] if number else "")
        screens = helpers.deep_screens()
        self.check(screens, screens[19][2][19], 20, "a" * 19, "a" * 19)
        self.check(screens, screens[19][2][19], 19, "a" * 19 + "u", "a" * 19 + "u")
        screens = [("", 20, ["a" * size for size in range(11, 31)])]
        self.check(screens, "a" * 30, 20, "", "")
        self.check(screens, "a" * 30, 19, "a" * 12, "a" * 12)
        self.check(screens, "a" * 30, 1, "a" * 30, "a" * 30)
        self.check(screens, "a" * 11, 1, "", "")

    def test_unknown_words_and_wrong_limits(self):
        for function in [sure_beginning, possible_beginning]:
            for value in helpers.NOT_WORDS + ["cow", "ca", "cars"]:
                check_raises(self, errors.UnknownWord, function, S, value, 1)
                check_raises(self, errors.UnknownWord, function, S, value, None)
            for value in helpers.NOT_LIMITS:
                check_raises(self, errors.InvalidLimit, function, S, "car", value)
            check_raises(self, errors.UnknownWord, function, [], "car", 1)


class AllDictionariesTest(unittest.TestCase):
    """Compared with all dictionaries of the words and of two more, which begin as asked and are never shown."""

    @classmethod
    def setUpClass(cls):
        cls.rows = list(universe.rows_without_clash(2, 60))
        cls.masks = []
        cls.results = {}
        for number, beginning in enumerate(["", "a", "ab", "abc", "b"]):
            every = universe.Universe(helpers.sequences(WORDS + [beginning + "z", beginning + "zz"]))
            cls.masks.append([every.fitting(row) for row in cls.rows])
            for word in WORDS:
                if word.startswith(beginning):
                    found = every.results(lambda row, beginning=beginning, word=word: place(row, beginning, word))
                    cls.results[beginning, word] = number, found

    def places(self, at, beginning, word):
        """All places of the word in dictionaries that fit the row at this number."""
        number, results = self.results[beginning, word]
        return sorted(found for found, mask in results.items() if found is not None and mask & self.masks[number][at])

    def test_place_range(self):
        for at, row in enumerate(self.rows):
            screens = universe.screens_of(row)
            for word in universe.known_of(screens):
                for beginning in beginnings_of(word):
                    found = self.places(at, beginning, word)
                    # With two new words, there are two more places if the places do not end.
                    self.assertEqual(found, list(range(found[0], found[-1] + 1)))
                    if len(found) > 1:
                        self.assertGreater(len(found), 2)
                    expected = (found[0], found[0] if len(found) == 1 else None)
                    self.assertEqual(place_range(screens, beginning, word), expected, (screens, beginning, word))

    def test_beginnings(self):
        for at, row in enumerate(self.rows):
            screens = universe.screens_of(row)
            for word in universe.known_of(screens):
                for limit in [1, 2]:
                    sure = possible = None
                    for beginning in reversed(beginnings_of(word)):
                        found = self.places(at, beginning, word)
                        sure = beginning if found[-1] < limit else sure
                        possible = beginning if found[0] < limit else possible
                    self.assertEqual(sure_beginning(screens, word, limit), sure)
                    self.assertEqual(possible_beginning(screens, word, limit), possible)

    def test_only_known(self):
        lists = [universe.screens_of(row) for row in self.rows] + [universe.larger_screens(at) for at in range(60)]
        for screens in lists:
            rankings = universe.all_rankings(screens)
            for word in universe.known_of(screens):
                for beginning in beginnings_of(word):
                    found = sorted({place(row, beginning, word) for row in rankings})
                    self.assertEqual(found, list(range(found[0], found[-1] + 1)))
                    expected = (found[0], found[-1])
                    self.assertEqual(place_range(screens, beginning, word, only_known=True), expected)
                    self.assertEqual(place_range(screens, beginning, word)[0], found[0])


if __name__ == "__main__":
    unittest.main()
