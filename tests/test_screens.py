"""Points 5, 6, 13 and 14."""

import unittest

from tests import helpers
from tests.helpers import BIG, CLASHING, MISSING, S
from topmatches import errors
from topmatches.screens import are_screens, find_clash, is_clash, is_screen, known_words

ANY_KIND = helpers.AlwaysEqual()
SCREENS = [
    ("", 1, []), ("", 1, ["a"]), ("", 20, []), ("x", 3, []), ("c", 2, ["car"]), ("c", 2, ["car", "cat"]),
    ("c", 2, ["cat", "car"]), ("car", 1, ["car"]), ("z" * 30, 20, ["z" * 30]), ("", 20, list("abcdefghijklmnopqrst")),
    ("ca", 3, ["cat", "ca", "car"]),
]


class KindsTest(unittest.TestCase):
    def test_screens(self):
        for value in SCREENS:
            with self.subTest(value=value):
                self.assertIs(is_screen(value), True)
                self.assertIs(are_screens([value]), True)
                self.assertIs(are_screens(value), False)

    def test_lists_of_screens(self):
        for value in [[], SCREENS, S, CLASHING, MISSING, [SCREENS[0]] * 20, SCREENS + SCREENS[:9]]:
            self.assertIs(are_screens(value), True)
            self.assertIs(is_screen(value), False)

    def test_21_screens_are_too_many(self):
        for one in SCREENS:
            self.assertIs(are_screens([one] * 20), True)
            self.assertIs(are_screens([one] * 21), False)

    def test_as_many_words_as_the_limit_are_the_most(self):
        letters = list("abcdefghijklmnopqrstuvwxyz")
        for limit in range(1, 21):
            for count in range(27):
                self.assertIs(is_screen(("", limit, letters[:count])), count <= limit)

    def test_other_values(self):
        for value in helpers.NOT_SCREENS:
            with self.subTest(value=value):
                self.assertIs(is_screen(value), False)
        for value in helpers.NOT_SCREEN_LISTS:
            with self.subTest(value=value):
                self.assertIs(are_screens(value), False)


class KnownWordsTest(unittest.TestCase):
    def test_each_word_once_and_ascending(self):
        self.assertEqual(known_words(S), ["car", "cat", "dog", "dot"])
        self.assertEqual(known_words(S[::-1]), ["car", "cat", "dog", "dot"])
        self.assertEqual(known_words([("", 3, ["b", "ab", "a"]), ("b", 2, ["b", "ba"])]), ["a", "ab", "b", "ba"])

    def test_no_words(self):
        self.assertEqual(known_words([]), [])
        self.assertEqual(known_words([("", 1, [])]), [])
        self.assertEqual(known_words([("x", 1, [])] * 20), [])

    def test_clashes_do_not_matter(self):
        self.assertEqual(known_words(CLASHING), ["car", "dog"])
        self.assertEqual(known_words(MISSING), ["xa"])

    def test_400_words(self):
        screens = helpers.wide_screens()
        self.assertEqual(known_words(screens[::-1]), [word for screen in screens for word in screen[2]])

    def test_wrong_values(self):
        for value in helpers.NOT_SCREEN_LISTS:
            with self.subTest(value=value), self.assertRaises(errors.InvalidScreens) as caught:
                known_words(value)
            self.assertIs(type(caught.exception), errors.InvalidScreens)


class FindClashTest(unittest.TestCase):
    def test_a_short_screen_misses_a_word(self):
        self.assertEqual(find_clash(MISSING), ("missing", 0, 1, "xa"))
        self.assertEqual(find_clash(MISSING[::-1]), ("missing", 1, 0, "xa"))
        self.assertEqual(find_clash([("c", 2, ["car"]), ("cat", 1, ["cat"])]), ("missing", 0, 1, "cat"))

    def test_full_screens_miss_no_word(self):
        self.assertIsNone(find_clash([("c", 1, ["car"]), ("cat", 1, ["cat"])]))
        self.assertIsNone(find_clash([("x", 1, []), ("c", 2, ["car"]), ("d", 2, ["dog"])]))

    def test_two_screens_disagree_about_the_order(self):
        for found in [find_clash(CLASHING), find_clash(CLASHING[::-1])]:
            self.assertIn(found, [
                ("order", 0, 1, "dog", "car"), ("order", 1, 0, "car", "dog"),
                ("order", 1, 0, "dog", "car"), ("order", 0, 1, "car", "dog"),
            ])
        self.assertIsNotNone(find_clash([("", 2, ["car", "cat"]), ("ca", 2, ["cat", "car"])]))
        self.assertIsNotNone(find_clash([("", 1, ["car"]), ("c", 1, ["cat"])]))
        self.assertIsNone(find_clash([("", 1, ["car"]), ("d", 1, ["dog"])]))

    def test_a_word_that_one_screen_leaves_out(self):
        one, other = ("", 2, ["ab", "b"]), ("a", 1, ["ac"])
        self.assertIn(find_clash([one, other]), [("order", 0, 1, "ab", "ac"), ("order", 1, 0, "ac", "ab")])
        self.assertIsNone(find_clash([("", 2, ["b", "ac"]), other]))

    def test_no_screens_and_no_clash(self):
        self.assertIsNone(find_clash([]))
        self.assertIsNone(find_clash(S))
        for one in SCREENS:
            self.assertIsNone(find_clash([one]))
            self.assertIsNone(find_clash([one] * 20))

    def test_the_last_of_20_screens_clashes(self):
        screens = [("", 20, list("abcdefghijklmnopqrst"))] * 19
        self.assertIsNone(find_clash(screens + [("t", 1, ["t"])]))
        found = find_clash(screens + [("t", 1, ["tt"])])
        self.assertIs(is_clash(screens + [("t", 1, ["tt"])], found), True)
        self.assertIn(19, found)

    def test_400_words(self):
        self.assertIsNone(find_clash(helpers.wide_screens()))
        self.assertIsNone(find_clash(helpers.deep_screens()))
        screens = helpers.deep_screens()
        last = screens[19][2]
        last[18], last[19] = last[19], last[18]
        self.assertIsNone(find_clash(screens))
        screens[0] = ("a" * 19, 20, sorted(last))
        self.assertIs(is_clash(screens, find_clash(screens)), True)

    def test_wrong_values(self):
        for value in helpers.NOT_SCREEN_LISTS:
            with self.subTest(value=value), self.assertRaises(errors.InvalidScreens) as caught:
                find_clash(value)
            self.assertIs(type(caught.exception), errors.InvalidScreens)


class IsClashTest(unittest.TestCase):
    def test_missing(self):
        self.assertIs(is_clash(MISSING, ("missing", 0, 1, "xa")), True)
        for value in [
            ("missing", 1, 0, "xa"), ("missing", 0, 0, "xa"), ("missing", 1, 1, "xa"), ("missing", 0, 1, "xb"),
            ("missing", 0, 1, ""), ("missing", 0, 2, "xa"), ("missing", -2, -1, "xa"), ("missing", 0, -1, "xa"),
            ("missing", 0, BIG, "xa"), ("missing", -BIG, 1, "xa"), ("missing", False, 1, "xa"),
            ("missing", 0, True, "xa"), ("missing", "0", 1, "xa"), ("missing", 0, None, "xa"), ("order", 0, 1, "xa"),
            ("Missing", 0, 1, "xa"), (b"missing", 0, 1, "xa"), (None, 0, 1, "xa"), (ANY_KIND, 0, 1, "xa"),
            ("missing", 0, 1, "xa", "xa"), ("missing", 0, 1), ["missing", 0, 1, "xa"], ("missing", 0, 1, ["xa"]),
            ("missing", 0, 1, b"xa"), ("missing", 0, 1, None), ("missing", (0,), 1, "xa"), ("missing", 0, [1], "xa"),
            (["missing"], 0, 1, "xa"), ("missing", 0, 1, "x"), ("missing", 0, 1, "xA"),
        ]:
            with self.subTest(value=value):
                self.assertIs(is_clash(MISSING, value), False)

    def test_missing_needs_a_short_screen_and_a_match(self):
        self.assertIs(is_clash([("c", 1, ["car"]), ("cat", 1, ["cat"])], ("missing", 0, 1, "cat")), False)
        self.assertIs(is_clash([("c", 2, ["car"]), ("cat", 1, ["cat"])], ("missing", 0, 1, "cat")), True)
        self.assertIs(is_clash([("c", 2, ["car"]), ("d", 1, ["dog"])], ("missing", 0, 1, "dog")), False)
        self.assertIs(is_clash([("c", 2, ["car"]), ("", 1, ["car"])], ("missing", 0, 1, "car")), False)

    def test_order(self):
        self.assertIs(is_clash(CLASHING, ("order", 0, 1, "dog", "car")), True)
        self.assertIs(is_clash(CLASHING, ("order", 1, 0, "car", "dog")), True)
        for value in [
            ("order", 0, 1, "car", "dog"), ("order", 1, 0, "dog", "car"), ("order", 0, 0, "dog", "car"),
            ("order", 1, 1, "car", "dog"), ("order", 0, 1, "dog", "dog"), ("order", 0, 2, "dog", "car"),
            ("order", -2, -1, "dog", "car"), ("order", False, 1, "dog", "car"), ("order", 0, True, "dog", "car"),
            ("order", 0, BIG, "dog", "car"), ("order", "0", "1", "dog", "car"), ("order", None, 1, "dog", "car"),
            ("missing", 0, 1, "dog", "car"), (b"order", 0, 1, "dog", "car"), (ANY_KIND, 0, 1, "dog", "car"),
            ("order", 0, 1, "dog"), ("order", 0, 1, "dog", "car", "cat"), ["order", 0, 1, "dog", "car"],
            ("order", 0, 1, ["dog", "car"]), ("order", 0, 1, "dog", "cat"), ("order", 0, 1, "dog", ""),
            ("order", 0, 1, None, "car"), ("order", 0, 1, "dog", None), ("order", 0, 1, ANY_KIND, ANY_KIND),
            ("order", 0, 1, b"dog", b"car"), ("order", 0, 1, ["dog"], ["car"]), ("order", 0, 1, "Dog", "car"),
        ]:
            with self.subTest(value=value):
                self.assertIs(is_clash(CLASHING, value), False)

    def test_other_values(self):
        for screens in [[], S, CLASHING, MISSING]:
            for value in helpers.NOT_SCREENS + helpers.NOT_WORDS + [helpers.AlwaysEqual(), (ANY_KIND,) * 4,
                                                                     (ANY_KIND,) * 5, ((), (), (), ())]:
                with self.subTest(value=value):
                    self.assertIs(is_clash(screens, value), False)

    def test_a_screen_that_stands_twice(self):
        screens = [CLASHING[0], CLASHING[0], CLASHING[1], CLASHING[1]]
        self.assertIs(is_clash(screens, ("order", 1, 3, "dog", "car")), True)
        self.assertIs(is_clash(screens, ("order", 0, 1, "dog", "car")), False)

    def test_wrong_values(self):
        for value in helpers.NOT_SCREEN_LISTS:
            with self.subTest(value=value), self.assertRaises(errors.InvalidScreens) as caught:
                is_clash(value, None)
            self.assertIs(type(caught.exception), errors.InvalidScreens)


if __name__ == "__main__":
    unittest.main()
