"""Points 8, 10 (d), 19 and 20."""

import unittest

from tests import helpers, universe
from tests.helpers import S, answer, check_raises, shows
from tests.universe import WORDS
from topmatches import errors
from topmatches.answers import can_answer, deciding_screen, dictionary_with, sure_answer, two_dictionaries

LETTERS = "abcdefghijklmnopqrstuvwxyz"


def decides(screen, beginning, limit):
    """Whether the screen decides them, as point 8 defines it."""
    own, own_limit, shown = screen
    if beginning[:len(own)] != own:
        return False
    return len(shown) < own_limit or sum(word[:len(beginning)] == beginning for word in shown) >= limit


class Checks(unittest.TestCase):
    def check_fits(self, dictionary, screens):
        self.assertTrue(helpers.is_dictionary(dictionary), dictionary)
        for screen in screens:
            self.assertTrue(shows(dictionary, screen), (dictionary, screen))

    def check_with(self, screens, beginning, limit, shown, possible):
        """Check what is told of a list that can be the answer, or cannot."""
        self.assertIs(can_answer(screens, beginning, limit, shown), possible, (screens, beginning, limit, shown))
        found = dictionary_with(screens, beginning, limit, shown)
        if possible:
            self.check_fits(found, screens + [(beginning, limit, shown)])
        else:
            self.assertIsNone(found)

    def check_sure(self, screens, beginning, limit, sure):
        """Check what is told of a question that has this sure answer, or None."""
        self.assertEqual(sure_answer(screens, beginning, limit), sure)
        deciding = [number for number, screen in enumerate(screens) if decides(screen, beginning, limit)]
        self.assertEqual(deciding_screen(screens, beginning, limit), deciding[0] if deciding else None)
        self.assertEqual(bool(deciding), sure is not None)
        found = two_dictionaries(screens, beginning, limit)
        if sure is None:
            self.assertIs(type(found), tuple)
            one, other = found
            self.check_fits(one, screens)
            self.check_fits(other, screens)
            self.assertNotEqual(answer(one, beginning, limit), answer(other, beginning, limit))
        else:
            self.assertIsNone(found)


class CanAnswerTest(Checks):
    def test_known_and_new_words(self):
        for shown, possible in [
            (["car", "cat", "cab"], True), (["car", "cat"], True), (["car", "cat", "c"], True), (["car"], False),
            (["cat", "car"], False), (["car", "cab", "cat"], False), (["cab", "car", "cat"], False), ([], False),
        ]:
            self.check_with(S, "c", 3, shown, possible)
        for limit, shown, possible in [
            (1, ["dog"], True), (1, ["dot"], False), (1, ["do"], False), (2, ["dog", "dot"], True), (1, [], False),
            (2, ["dog", "da"], True), (2, ["dog", "dox"], False), (3, ["dog", "da", "dot"], True),
            (2, ["dog"], False), (2, ["dot", "dog"], False), (3, ["dog", "dot"], True), (3, ["da", "dog", "dot"], False),
        ]:
            self.check_with(S, "d", limit, shown, possible)

    def test_no_screens(self):
        for screens in [[], [("x", 1, ["xa"])]]:
            for shown in [[], ["a"], ["aa", "a"], ["ab", "aa"]]:
                self.check_with(screens, "a", 2, shown, True)

    def test_the_only_dictionary_is_empty(self):
        self.check_with([("", 1, [])], "", 1, [], True)
        self.check_with([("", 1, [])], "", 1, ["a"], False)
        self.check_with([("", 1, [])], "abc", 20, [], True)

    def test_a_word_that_is_known_but_not_listed(self):
        self.check_with([("ca", 1, ["car"])], "c", 2, ["car"], True)
        self.check_with([("ca", 1, ["car"])], "c", 2, ["cow"], False)
        self.check_with([("ca", 1, ["car"])], "c", 2, ["cow", "cat"], False)
        self.check_with([("ca", 1, ["car"])], "c", 2, ["cow", "cod"], True)

    def test_beginnings_that_no_known_word_matches(self):
        self.check_with(S, "x", 1, ["xa"], True)
        self.check_with(S, "x", 1, [], True)
        self.check_with(S, "dox", 2, [], True)
        self.check_with(S, "dox", 2, ["dox"], False)

    def test_20_screens_leave_room_for_the_answer(self):
        for screens in [[("c", 1, ["car"])] * 20, S * 6 + S[:2], [(one, 1, [one]) for one in LETTERS[:20]]]:
            self.assertEqual(len(screens), 20)
            word = screens[0][2][0]
            self.check_with(screens, "", 1, [word], True)
            self.check_with(screens, word, 1, [word + "x"], False)
            self.check_with(screens, word, 2, [word, word + "x"], True)
            self.check_with(screens, "z", 20, ["z" * size for size in range(1, 21)], True)

    def test_30_letters_and_limits_of_1_and_20(self):
        for screens in [helpers.wide_screens(), helpers.branching_screens()]:
            for beginning, limit, shown in screens:
                self.check_with(screens, beginning, limit, shown, True)
                self.check_with(screens, beginning, limit, shown[::-1], False)
                self.check_with(screens, beginning, limit, shown[:19], False)
                self.check_with(screens, beginning, 1, shown[:1], True)
                self.check_with(screens, beginning, 1, shown[1:2], False)
        screens = helpers.deep_screens()
        last = screens[19][2]
        self.check_with(screens, "a" * 19, 20, last, True)
        self.check_with(screens, "a" * 20, 20, ["a" * 20], True)
        self.check_with(screens, "a" * 30, 1, ["a" * 30], True)
        self.check_with(screens, "a" * 19, 20, last[:19] + ["a" * 30], False)
        self.check_with(screens, last[0], 2, [last[0], last[0] + "x"], True)
        self.check_with(screens, last[0], 2, [last[0] + "x", last[0]], False)

    def test_dictionaries_are_new(self):
        for screens in [[], S, [("a", 1, ["a"])]]:
            shown = ["xa"]
            found = dictionary_with(screens, "x", 1, shown)
            expected = list(found)
            found.clear()
            self.assertEqual(shown, ["xa"])
            self.assertEqual(dictionary_with(screens, "x", 1, shown), expected)

    def test_lists_that_are_no_lists_for_a_box(self):
        wrong = helpers.NOT_DICTIONARIES + [
            ["dog"], ["car", "dog"], ["ca", "cat", "car"], ["ac"], ["car", "cat", "cab", "cad"], ("car", "cat"),
            [["car", "cat"]], [("car", "cat")], ["car", None], ["car", ""], ["car", "car"], {"car": 1, "cat": 2}, "car",
        ]
        for value in wrong:
            for function in [can_answer, dictionary_with]:
                with self.subTest(value=value, function=function):
                    check_raises(self, errors.InvalidList, function, S, "c", 2, value)
                    check_raises(self, errors.InvalidList, function, [], "c", 2, value)
        for function in [can_answer, dictionary_with]:
            check_raises(self, errors.InvalidList, function, S, "ca", 2, ["c"])
            check_raises(self, errors.InvalidList, function, S, "", 1, ["car", "dog"])
            check_raises(self, errors.InvalidList, function, [], "", 20, ["a" * size for size in range(1, 22)])


class SureAnswerTest(Checks):
    def test_full_screens_decide_what_they_show(self):
        self.check_sure(S, "", 1, ["car"])
        self.check_sure(S, "", 2, ["car", "dog"])
        self.check_sure(S, "", 3, None)
        self.check_sure(S, "c", 1, ["car"])
        self.check_sure(S, "c", 2, ["car", "cat"])
        self.check_sure(S, "c", 3, None)
        self.check_sure(S, "d", 1, ["dog"])
        self.check_sure(S, "d", 2, None)
        self.check_sure(S, "car", 1, ["car"])
        self.check_sure(S, "car", 2, None)
        self.check_sure(S, "cars", 1, None)

    def test_short_screens_decide_all_that_begins_so(self):
        for limit in [1, 2, 3, 20]:
            self.check_sure(S, "do", limit, ["dog", "dot"][:limit])
            self.check_sure(S, "dot", limit, ["dot"])
            self.check_sure(S, "dox", limit, [])
            self.check_sure(S, "do" + "x" * 28, limit, [])
            self.check_sure([("", 1, [])], "", limit, [])
            self.check_sure([("", 2, ["b"])], "b", limit, ["b"])
        self.check_sure(S, "x", 1, None)

    def test_least_number_of_a_deciding_screen(self):
        self.assertEqual(deciding_screen(S, "c", 1), 0)
        self.assertEqual(deciding_screen(S, "c", 2), 1)
        self.assertEqual(deciding_screen(S[::-1], "c", 1), 1)
        self.assertEqual(deciding_screen(S[::-1], "", 2), 2)
        self.assertEqual(deciding_screen([("x", 1, ["x"])] * 18 + [("", 2, ["a", "b"])] * 2, "b", 1), 18)

    def test_longer_beginnings_decide_nothing(self):
        self.check_sure([("ca", 5, ["car", "cat"])], "c", 1, None)
        self.check_sure([("ca", 5, ["car", "cat"])], "ca", 5, ["car", "cat"])
        self.check_sure([("ca", 5, ["car", "cat"])], "", 1, None)

    def test_no_screens(self):
        for beginning in ["", "a", "z" * 30]:
            for limit in [1, 2, 20]:
                self.check_sure([], beginning, limit, None)

    def test_one_screen_that_shows_all(self):
        for limit in range(1, 21):
            self.check_sure([("", 20, list(LETTERS[:20]))], "", limit, list(LETTERS[:limit]))
        self.check_sure([("", 20, list(LETTERS[:20]))], "a", 2, None)
        self.check_sure([("", 20, list(LETTERS[:20]))], "z", 1, None)
        self.check_sure([("", 20, list(LETTERS[:19]))], "z", 1, [])
        self.check_sure([("", 20, list(LETTERS[:19]))], "a", 20, ["a"])

    def test_the_answer_is_new(self):
        screens = [("", 2, ["car", "dog"]), ("do", 3, ["dog", "dot"])]
        for beginning, limit in [("", 2), ("do", 3), ("dot", 1)]:
            found = sure_answer(screens, beginning, limit)
            found.append("x")
            self.assertEqual(screens, [("", 2, ["car", "dog"]), ("do", 3, ["dog", "dot"])])
            self.assertEqual(sure_answer(screens, beginning, limit), found[:-1])

    def test_both_dictionaries_are_new(self):
        for screens in [[], S, [("a", 1, ["a"])]]:
            found = two_dictionaries(screens, "c", 5)
            expected = (list(found[0]), list(found[1]))
            self.assertIsNot(found[0], found[1])
            for row in found:
                row.append("z")
            self.assertEqual(two_dictionaries(screens, "c", 5), expected)


class TwoDictionariesTest(Checks):
    def test_screens_for_many_letters_behind_the_beginning(self):
        for kind in [[], ["x"], ["x", "xx"]]:
            for limit in [1, 2, 3]:
                if len(kind) <= limit:
                    screens = [("c" + one, limit, ["c" + one + end for end in kind]) for one in LETTERS[:20]]
                    for asked in [1, 2, 20]:
                        self.check_sure(screens, "c", asked, None)
                        self.check_sure(screens, "", asked, None)
                        self.check_sure(screens[::-1], "c", asked, None)

    def test_the_first_new_words_one_thinks_of_are_known(self):
        words = ["c", "ca", "caa", "caaa", "cb", "cz", "czz", "cbb", "caaaa", "cx"]
        self.check_sure([("", 10, words)], "c", 11, None)
        self.check_sure([("", 10, words)], "c", 10, words)
        self.check_sure([("", 10, words)], "ca", 5, None)
        self.check_sure([("c", 10, words), ("cc", 1, []), ("cd", 3, ["cde"])], "c", 11, None)
        self.check_sure([("c", 10, words), ("b", 1, ["b"])], "", 1, None)

    def test_new_words_stand_behind_what_is_shown(self):
        screens = [("", 3, ["dog", "car", "bee"]), ("c", 2, ["car", "cat"]), ("ca", 3, ["car", "cat", "cab"])]
        self.check_sure(screens, "c", 3, None)
        self.check_sure(screens, "ca", 4, None)
        self.check_sure(screens, "b", 2, None)
        self.check_sure(screens, "", 4, None)
        self.check_sure(screens[::-1], "c", 3, None)
        self.check_sure(screens, "ca", 3, ["car", "cat", "cab"])

    def test_beginnings_of_30_letters(self):
        for screens in [helpers.wide_screens(), helpers.deep_screens(), helpers.branching_screens()]:
            known = universe.known_of(screens)
            for word in [word for word in known if len(word) == 30][::40]:
                self.check_sure(screens, word, 1, [word])
                self.check_sure(screens, word, 2, None)
                self.check_sure(screens, word, 20, None)
            self.check_sure(screens, "z" * 30, 1, None)

    def test_20_screens_of_20_words(self):
        for screens in [helpers.wide_screens(), helpers.branching_screens()]:
            for beginning, limit, shown in screens:
                self.check_sure(screens, beginning, 20, shown)
                self.check_sure(screens, beginning, 7, shown[:7])
        self.check_sure(helpers.wide_screens(), "", 1, None)
        self.check_sure(helpers.wide_screens(), "", 20, None)
        screens = helpers.deep_screens()
        for size in range(20):
            self.check_sure(screens, "a" * size, 20, screens[size][2])
        self.check_sure(screens, "a" * 20, 1, None)


class AllDictionariesTest(Checks):
    """Each question is asked about all dictionaries of the words and of one that begins so and is never shown."""

    def candidates(self, beginning, limit, words):
        return [
            row for row in helpers.sequences(words)
            if len(row) <= limit and all(word.startswith(beginning) for word in row)
        ]

    def test_agrees_with_all_dictionaries(self):
        rows = list(universe.rows_without_clash(4, 60))
        for beginning in ["", "a", "ab", "abc", "b", "c"]:
            words = WORDS + [beginning + "z"]
            all_of_them = universe.Universe(helpers.sequences(words))
            for limit in [1, 2, 3]:
                results = all_of_them.results(lambda row: tuple(answer(row, beginning, limit)))
                candidates = self.candidates(beginning, limit, words)
                for number, row in enumerate(rows):
                    fitting = all_of_them.fitting(row)
                    possible = [list(result) for result, mask in results.items() if mask & fitting]
                    self.check_sure(universe.screens_of(row), beginning, limit,
                                    possible[0] if len(possible) == 1 else None)
                    for shown in candidates[number % 3::3]:
                        self.check_with(universe.screens_of(row), beginning, limit, shown, shown in possible)

    def test_larger_screens(self):
        for number in range(60):
            screens = universe.larger_screens(number)
            row = universe.all_rankings(screens)[-1]
            for beginning in ["", "a", "b", "aa", "ab", "bab", "c"]:
                for limit in [1, 2, 3, 4]:
                    shown = answer(row, beginning, limit)
                    self.check_with(screens, beginning, limit, shown, True)
                    decided = any(decides(screen, beginning, limit) for screen in screens)
                    self.check_sure(screens, beginning, limit, shown if decided else None)

    def test_larger_screens_and_lists_of_known_words(self):
        for number in range(0, 60, 5):
            screens = universe.larger_screens(number)
            rows = [row for row in helpers.sequences(universe.known_of(screens)[::2]) if len(row) <= 3]
            for beginning in ["", "a", "b", "ab"]:
                for shown in rows:
                    if all(word.startswith(beginning) for word in shown):
                        # If there is such a dictionary, its known words make up a ranking that has the answer.
                        possible = bool(universe.all_rankings(screens + [(beginning, 3, shown)]))
                        self.check_with(screens, beginning, 3, shown, possible)


if __name__ == "__main__":
    unittest.main()
