"""The errors of the modules rankings, answers, places, lists and reducing: which comes first, and its class."""

import unittest

from tests import helpers
from tests.helpers import CLASHING, MISSING, S, check_raises
from topmatches import errors
from topmatches.answers import can_answer, deciding_screen, dictionary_with, sure_answer, two_dictionaries
from topmatches.lists import answer_index, count_answers, nth_answer
from topmatches.places import place_range, possible_beginning, sure_beginning
from topmatches.rankings import count_rankings, is_ranking, nth_ranking, ranking_index
from topmatches.reducing import is_implied, reduced, say_same, telling_dictionary
from topmatches.screens import is_clash

CLASHES = [
    CLASHING, CLASHING[::-1], MISSING, MISSING[::-1], S + CLASHING, CLASHING * 10, [("", 1, [])] * 19 + [("", 1, ["a"])],
    [("", 20, ["a"]), ("b", 1, ["b"]), ("x", 1, [])], [("c", 2, ["car", "cat"]), ("ca", 2, ["cat", "car"])],
    helpers.deep_screens()[:19] + [("", 1, ["z"])],
]
NO_SCREENS = ("screens", errors.InvalidScreens, helpers.NOT_SCREEN_LISTS)
CLASH = ("screens", errors.ScreensClash, CLASHES)
OTHER = ("other", errors.InvalidScreens, helpers.NOT_SCREEN_LISTS)
OTHER_CLASH = ("other", errors.ScreensClash, CLASHES)
BEGINNING = ("beginning", errors.InvalidBeginning, helpers.NOT_BEGINNINGS)
LIMIT = ("limit", errors.InvalidLimit, helpers.NOT_LIMITS)
WORD = ("word", errors.UnknownWord, helpers.NOT_WORDS + ["cow", "ca", "cars", "xa", "c" * 30])
LIST = ("shown", errors.InvalidList, helpers.NOT_DICTIONARIES + [["dog"], ["car", "cat", "cab"], ("car",), ["c", "a"]])
ANSWER = ("shown", errors.NotAnswer, helpers.NOT_DICTIONARIES + [["car"], ["cat", "car"], ["car", "cab"], [], ("car",)])
# The functions, a good call of each, and the errors for wrong arguments, in the order in which they are looked for.
FUNCTIONS = [
    (count_rankings, {}, []),
    (is_ranking, {"value": ["car"]}, []),
    (nth_ranking, {"number": 1}, [("number", errors.InvalidNumber, helpers.NOT_NUMBERS + [2, 3, 20])]),
    (ranking_index, {"ranking": ["car", "dog", "cat", "dot"]}, [
        ("ranking", errors.NotRanking, helpers.NOT_DICTIONARIES + [["car", "dog", "cat"], ["dog", "car", "cat", "dot"]]),
    ]),
    (can_answer, {"beginning": "c", "limit": 2, "shown": ["car", "cat"]}, [BEGINNING, LIMIT, LIST]),
    (dictionary_with, {"beginning": "c", "limit": 2, "shown": ["car", "cat"]}, [BEGINNING, LIMIT, LIST]),
    (sure_answer, {"beginning": "c", "limit": 2}, [BEGINNING, LIMIT]),
    (deciding_screen, {"beginning": "c", "limit": 2}, [BEGINNING, LIMIT]),
    (two_dictionaries, {"beginning": "c", "limit": 2}, [BEGINNING, LIMIT]),
    (place_range, {"beginning": "c", "word": "cat"}, [BEGINNING, WORD, ("word", errors.NoMatch, ["dog", "dot"])]),
    (place_range, {"beginning": "c", "word": "cat", "only_known": True}, [
        BEGINNING, WORD, ("word", errors.NoMatch, ["dog", "dot"]),
    ]),
    (sure_beginning, {"word": "cat", "limit": 2}, [WORD, LIMIT]),
    (possible_beginning, {"word": "cat", "limit": 2}, [WORD, LIMIT]),
    (count_answers, {"beginning": "c", "limit": 2}, [BEGINNING, LIMIT]),
    (nth_answer, {"beginning": "c", "limit": 2, "number": 0}, [
        BEGINNING, LIMIT, ("number", errors.InvalidNumber, helpers.NOT_NUMBERS + [1, 2, 20]),
    ]),
    (answer_index, {"beginning": "c", "limit": 2, "shown": ["car", "cat"]}, [BEGINNING, LIMIT, ANSWER]),
    (is_implied, {"index": 0}, [("index", errors.InvalidIndex, helpers.NOT_NUMBERS + [3, 4, 20])]),
    (reduced, {}, []),
    (say_same, {"other": S[1:]}, [OTHER, OTHER_CLASH]),
    (telling_dictionary, {"other": S[1:]}, [OTHER, OTHER_CLASH]),
]


class WrongValuesTest(unittest.TestCase):
    def test_good_calls(self):
        for function, good, _ in FUNCTIONS:
            function(screens=S, **good)

    def test_each_wrong_value(self):
        for function, good, wrong in FUNCTIONS:
            for name, error, values in [NO_SCREENS, CLASH] + wrong:
                for value in values:
                    with self.subTest(function=function, value=value):
                        check_raises(self, error, function, **dict(good, screens=S) | {name: value})

    def test_the_first_error_that_applies(self):
        for function, good, wrong in FUNCTIONS:
            rules = [NO_SCREENS, CLASH] + wrong
            for at, (name, error, values) in enumerate(rules):
                later = {other: found[0] for other, _, found in rules[at + 1:] if other != name}
                for value in [values[0], values[-1]]:
                    with self.subTest(function=function, value=value, later=later):
                        check_raises(self, error, function, **dict(good, screens=S) | later | {name: value})

    def test_the_clash_is_one_of_the_screens(self):
        for screens in CLASHES:
            clashes = helpers.all_clashes(screens) if len(screens[0][2]) < 20 else None
            for function, good, wrong in FUNCTIONS:
                bad = {name: values[0] for name, _, values in wrong}
                for arguments in [good, good | bad]:
                    with self.subTest(function=function, screens=screens):
                        error = check_raises(self, errors.ScreensClash, function, screens=screens, **arguments)
                        self.assertIs(is_clash(screens, error.clash), True)
                        # Of many words it would take long to go through all clashes.
                        self.assertTrue(clashes is None or error.clash in clashes)

    def test_is_ranking_takes_any_value(self):
        values = helpers.NOT_DICTIONARIES + helpers.NOT_WORDS + helpers.NOT_LIMITS + helpers.NOT_SCREENS
        for value in values + helpers.NOT_SCREEN_LISTS + [["car", "dog", "cat"], ("car", "dog", "cat", "dot")]:
            with self.subTest(value=value):
                self.assertIs(is_ranking(S, value), False)
        self.assertIs(is_ranking(S, ["car", "dog", "cat", "dot"]), True)


if __name__ == "__main__":
    unittest.main()
