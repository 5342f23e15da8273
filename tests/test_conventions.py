"""Points 1, 2 and 3: names, arguments, new lists, and what must not end in an error."""

import copy
import importlib
import inspect
import unittest

from tests import helpers
from tests.helpers import CLASHING, MISSING, S
from topmatches import errors
from topmatches.answers import can_answer, deciding_screen, dictionary_with, sure_answer, two_dictionaries
from topmatches.console import Console
from topmatches.lists import answer_index, count_answers, nth_answer
from topmatches.notebooks import Notebook
from topmatches.order import children_of, is_before, parent_of, reason_for, words_above, words_below
from topmatches.places import place_range, possible_beginning, sure_beginning
from topmatches.rankings import count_rankings, is_ranking, nth_ranking, ranking_index
from topmatches.reducing import is_implied, reduced, say_same, telling_dictionary
from topmatches.screens import are_screens, find_clash, is_clash, is_screen, known_words
from topmatches.texts import format_screen, format_screens, parse_screen, parse_screens
from topmatches.words import answer_of, fits, is_beginning, is_word

WORDS = ["car", "dog", "cat", "dot"]
# Calls of each function: the function, its arguments by name, in their order, and the result.
CALLS = [
    (is_word, {"value": "car"}, True),
    (is_beginning, {"value": ""}, True),
    (answer_of, {"dictionary": WORDS, "beginning": "c", "limit": 1}, ["car"]),
    (answer_of, {"dictionary": WORDS, "beginning": "", "limit": 20}, WORDS),
    (fits, {"dictionary": WORDS, "screens": S}, True),
    (is_screen, {"value": S[0]}, True),
    (are_screens, {"value": S}, True),
    (known_words, {"screens": S}, sorted(WORDS)),
    (find_clash, {"screens": S}, None),
    (find_clash, {"screens": MISSING}, ("missing", 0, 1, "xa")),
    (is_clash, {"screens": CLASHING, "value": ("order", 0, 1, "dog", "car")}, True),
    (is_clash, {"screens": CLASHING, "value": ["order"]}, False),
    (is_before, {"screens": S, "word": "car", "other": "dog"}, True),
    (is_before, {"screens": S, "word": "dog", "other": "car"}, False),
    (reason_for, {"screens": S, "word": "car", "other": "cat"}, 0),
    (words_above, {"screens": S, "word": "dot"}, ["car", "dog"]),
    (words_below, {"screens": S, "word": "dog"}, ["cat", "dot"]),
    (parent_of, {"screens": S, "word": "dot"}, "dog"),
    (children_of, {"screens": S, "word": "dog"}, ["cat", "dot"]),
    (children_of, {"screens": S, "word": None}, ["car"]),
    (children_of, {"screens": S}, ["car"]),
    (count_rankings, {"screens": S[1:]}, 6),
    (is_ranking, {"screens": S, "value": ["car", "dog", "dot", "cat"]}, True),
    (is_ranking, {"screens": S, "value": ["dog", "car", "dot", "cat"]}, False),
    (nth_ranking, {"screens": S, "number": 1}, ["car", "dog", "dot", "cat"]),
    (nth_ranking, {"screens": [("", 2, WORDS[:2])], "number": 0}, WORDS[:2]),
    (ranking_index, {"screens": S, "ranking": ["car", "dog", "dot", "cat"]}, 1),
    (can_answer, {"screens": S, "beginning": "c", "limit": 3, "shown": ["car", "cat", "cab"]}, True),
    (can_answer, {"screens": S, "beginning": "c", "limit": 3, "shown": ["car"]}, False),
    (dictionary_with, {"screens": [("", 3, ["b", "a"])], "beginning": "a", "limit": 1, "shown": ["a"]}, ["b", "a"]),
    (dictionary_with, {"screens": S, "beginning": "d", "limit": 1, "shown": ["dot"]}, None),
    (sure_answer, {"screens": S, "beginning": "", "limit": 2}, ["car", "dog"]),
    (sure_answer, {"screens": S, "beginning": "dox", "limit": 5}, []),
    (sure_answer, {"screens": S, "beginning": "c", "limit": 3}, None),
    (deciding_screen, {"screens": S, "beginning": "c", "limit": 2}, 1),
    (deciding_screen, {"screens": S, "beginning": "c", "limit": 3}, None),
    (two_dictionaries, {"screens": S, "beginning": "c", "limit": 3}, copy.deepcopy(two_dictionaries(S, "c", 3))),
    (two_dictionaries, {"screens": S, "beginning": "c", "limit": 2}, None),
    (place_range, {"screens": S, "beginning": "", "word": "cat"}, (2, None)),
    (place_range, {"screens": S, "beginning": "", "word": "cat", "only_known": False}, (2, None)),
    (place_range, {"screens": S, "beginning": "", "word": "cat", "only_known": True}, (2, 3)),
    (sure_beginning, {"screens": S, "word": "dot", "limit": 2}, "do"),
    (sure_beginning, {"screens": [("car", 2, ["cart", "car"])], "word": "car", "limit": 1}, None),
    (possible_beginning, {"screens": S, "word": "dot", "limit": 2}, "d"),
    (possible_beginning, {"screens": [("car", 2, ["cart", "car"])], "word": "car", "limit": 1}, None),
    (count_answers, {"screens": S[1:], "beginning": "", "limit": 2}, 4),
    (nth_answer, {"screens": S[1:], "beginning": "", "limit": 2, "number": 3}, ["dog", "dot"]),
    (nth_answer, {"screens": S, "beginning": "x", "limit": 2, "number": 0}, []),
    (answer_index, {"screens": S[1:], "beginning": "", "limit": 2, "shown": ["dog", "car"]}, 2),
    (is_implied, {"screens": S, "index": 0}, False),
    (is_implied, {"screens": S + S[:1], "index": 3}, True),
    (reduced, {"screens": S + S}, [0, 1, 2]),
    (say_same, {"screens": S, "other": S + S}, True),
    (say_same, {"screens": S, "other": S[1:]}, False),
    (telling_dictionary, {"screens": S, "other": S[::-1]}, None),
    (telling_dictionary, {"screens": S, "other": S[1:]}, telling_dictionary(S, S[1:])),
    (format_screen, {"screen": S[0]}, "- 2 car dog"),
    (parse_screen, {"text": "- 2 car dog"}, S[0]),
    (format_screens, {"screens": S[1:]}, "c 2 car cat\ndo 3 dog dot"),
    (parse_screens, {"text": "c 2 car cat\ndo 3 dog dot"}, S[1:]),
    (parse_screens, {"text": ""}, []),
]
PARAMETERS = {
    "words": {
        "is_word": "(value)", "is_beginning": "(value)", "answer_of": "(dictionary, beginning, limit)",
        "fits": "(dictionary, screens)",
    },
    "screens": {
        "is_screen": "(value)", "are_screens": "(value)", "known_words": "(screens)", "find_clash": "(screens)",
        "is_clash": "(screens, value)",
    },
    "order": {
        "is_before": "(screens, word, other)", "reason_for": "(screens, word, other)",
        "words_above": "(screens, word)", "words_below": "(screens, word)", "parent_of": "(screens, word)",
        "children_of": "(screens, word=None)",
    },
    "rankings": {
        "count_rankings": "(screens)", "is_ranking": "(screens, value)", "nth_ranking": "(screens, number)",
        "ranking_index": "(screens, ranking)",
    },
    "answers": {
        "can_answer": "(screens, beginning, limit, shown)", "dictionary_with": "(screens, beginning, limit, shown)",
        "sure_answer": "(screens, beginning, limit)", "deciding_screen": "(screens, beginning, limit)",
        "two_dictionaries": "(screens, beginning, limit)",
    },
    "places": {
        "place_range": "(screens, beginning, word, *, only_known=False)",
        "sure_beginning": "(screens, word, limit)", "possible_beginning": "(screens, word, limit)",
    },
    "lists": {
        "count_answers": "(screens, beginning, limit)", "nth_answer": "(screens, beginning, limit, number)",
        "answer_index": "(screens, beginning, limit, shown)",
    },
    "reducing": {
        "is_implied": "(screens, index)", "reduced": "(screens)", "say_same": "(screens, other)",
        "telling_dictionary": "(screens, other)",
    },
    "texts": {
        "format_screen": "(screen)", "parse_screen": "(text)", "format_screens": "(screens)", "parse_screens": "(text)",
    },
}
# The methods that the document lists for each class, and its properties.
METHODS = {
    Notebook: {
        "__init__": "(self, *screens)", "add": "(self, beginning, limit, shown)", "drop": "(self, index)",
        "undo": "(self)", "ask": "(self, beginning, limit)", "copy_of": "(self)", "__len__": "(self)",
        "__eq__": "(self, other)",
    },
    Console: {"__init__": "(self)", "execute": "(self, line)"},
}
PROPERTIES = ["screens_now", "words_now", "rankings_now"]
TWO_LISTS = [say_same, telling_dictionary]
# The kinds of values that a function can be passed, by the name of its parameter, for wrong calls.
WRONG = {
    "dictionary": [("car",), ["car", "car"], [1]],
    "beginning": [None, "C", b""],
    "limit": [True, 0, 21],
    "screens": [(), [("c", 2, ["dog"])], [("", 1, [])] * 21, CLASHING],
    "word": ["", "cow", 1],
    "other": [None, "cow", ["car"]],
    "number": [-1, True, helpers.BIG],
    "ranking": [None, ["dot", "dog"], ("car", "dog", "dot", "cat")],
    "shown": [None, ["car", "car"], ["z" * 30, "a"], ("car",)],
    "index": [None, -1, 20, True],
    "screen": [None, ["", 2, []], ("", 1, ["car", "dog"])],
    "text": [None, ["- 2"], "- 21", "x"],
}


def lists_in(value):
    """All lists in what a call returned, the inner ones first."""
    if not isinstance(value, (list, tuple)):
        return []
    found = [row for part in value for row in lists_in(part)]
    return found + [value] if isinstance(value, list) else found


class InterfaceTest(unittest.TestCase):
    def test_names_and_parameters(self):
        for module, functions in PARAMETERS.items():
            found = importlib.import_module("topmatches." + module)
            for name, parameters in functions.items():
                with self.subTest(name=name):
                    function = getattr(found, name)
                    self.assertEqual(str(inspect.signature(function)), parameters)
                    self.assertEqual(function.__module__, "topmatches." + module)

    def test_methods_stand_in_their_class(self):
        for found, methods in METHODS.items():
            for name, parameters in methods.items():
                with self.subTest(name=name):
                    self.assertIn(name, vars(found))
                    self.assertEqual(str(inspect.signature(getattr(found, name))), parameters)
        for name in PROPERTIES:
            self.assertIsInstance(vars(Notebook)[name], property)
        self.assertEqual([Notebook.__module__, Console.__module__], ["topmatches.notebooks", "topmatches.console"])

    def test_every_function_is_called_here(self):
        names = {function.__name__ for function, _, _ in CALLS}
        self.assertEqual(names, {name for functions in PARAMETERS.values() for name in functions})

    def test_by_position_and_by_name(self):
        for function, arguments, result in CALLS:
            with self.subTest(function=function, arguments=arguments):
                named = {name: arguments[name] for name in arguments if name == "only_known"}
                by_position = [arguments[name] for name in arguments if name != "only_known"]
                self.assertEqual(function(*by_position, **named), result)
                self.assertEqual(function(**arguments), result)
                self.assertEqual(function(**dict(reversed(list(arguments.items())))), result)

    def test_results_have_exactly_their_kind(self):
        for function, arguments, result in CALLS:
            self.assertIs(type(function(**arguments)), type(result))


class ArgumentsTest(unittest.TestCase):
    def test_arguments_stay_as_they_were(self):
        for function, arguments, _ in CALLS:
            before = copy.deepcopy(arguments)
            function(**arguments)
            self.assertEqual(arguments, before)

    def test_arguments_stay_as_they_were_if_an_error_is_raised(self):
        raised = 0
        for function, arguments, _ in CALLS:
            for name in arguments:
                for value in WRONG.get(name, []):
                    wrong = dict(arguments, **{name: value})
                    before = copy.deepcopy(wrong)
                    try:
                        function(**wrong)
                    except errors.TopMatchesError:
                        raised += 1
                    self.assertEqual(wrong, before)
        self.assertGreater(raised, 60)

    def test_the_first_error_that_applies(self):
        kinds = {
            "dictionary": errors.InvalidDictionary, "beginning": errors.InvalidBeginning,
            "limit": errors.InvalidLimit, "screens": errors.InvalidScreens, "word": errors.UnknownWord,
            "number": errors.InvalidNumber, "ranking": errors.NotRanking, "index": errors.InvalidIndex,
            "screen": errors.InvalidScreen, "text": errors.InvalidText,
        }
        for function, arguments, _ in CALLS:
            kinds["shown"] = errors.NotAnswer if function is answer_index else errors.InvalidList
            kinds["other"] = errors.InvalidScreens if function in TWO_LISTS else errors.UnknownWord
            names = [name for name in arguments if name not in ("value", "only_known")]
            for at, name in enumerate(names):
                wrong = dict(arguments, **{later: WRONG[later][0] for later in names[at:]})
                with self.subTest(function=function, wrong=wrong):
                    helpers.check_raises(self, kinds[name], function, **wrong)

    def test_equal_calls_return_equal_results(self):
        for function, arguments, _ in CALLS:
            first = function(**arguments)
            for _ in range(3):
                self.assertEqual(function(**copy.deepcopy(arguments)), first)
        for screens in [CLASHING * 10, MISSING * 10, S + CLASHING + MISSING]:
            self.assertEqual(find_clash(screens), find_clash(copy.deepcopy(screens)))

    def test_lists_are_new(self):
        for function, arguments, result in CALLS:
            before = copy.deepcopy(arguments)
            for found in lists_in(function(**arguments)):
                found.append("other")
                found.reverse()
                self.assertEqual(arguments, before)
                self.assertEqual(function(**arguments), result)

    def test_a_new_list_also_if_it_equals_an_argument(self):
        dictionary = ["car"]
        found = answer_of(dictionary, "", 20)
        found.clear()
        self.assertEqual(dictionary, ["car"])
        screens = [("", 2, ["car", "cat"])]
        for found in [known_words(screens), words_below(screens, "car"), words_above(screens, "cat")]:
            found.clear()
        self.assertEqual(screens, [("", 2, ["car", "cat"])])


class LimitsTest(unittest.TestCase):
    def test_the_largest_arguments(self):
        for screens in [helpers.wide_screens(), helpers.deep_screens()]:
            words = [word for screen in screens for word in screen[2]]
            self.assertEqual([len(screens), len(set(words)), max(len(word) for word in words)], [20, 400, 30])
            self.assertIs(fits(words, screens), True)
            self.assertEqual(known_words(screens), sorted(words))
            self.assertIsNone(find_clash(screens))
            self.assertEqual(words_above(screens, words[0]), [])
            self.assertEqual(children_of(screens, words[0]), [words[1]])
            self.assertIs(is_before(screens, words[0], words[1]), True)

    def test_larger_arguments_raise_no_error(self):
        long = "a" * 5000
        screens = [(long, 20, [long + "b", long]), ("a" * 4999, 1, [long + "b"])]
        self.assertIs(is_word(long), True)
        self.assertEqual(answer_of([long], long, 1), [long])
        self.assertEqual(words_above(screens, long), [long + "b"])

    def test_large_integers(self):
        for value in [10 ** 999, -10 ** 999, 10 ** 1000 - 1]:
            self.assertIs(is_word(value), False)
            self.assertIs(is_screen(("", value, [])), False)
            self.assertIs(is_clash(CLASHING, ("order", value, value, "dog", "car")), False)
            self.assertRaises(errors.InvalidLimit, answer_of, [], "", value)

    def test_deeply_nested_values(self):
        value = helpers.nested(39)
        for function in [is_word, is_beginning, is_screen, are_screens]:
            self.assertIs(function(value), False)
        self.assertIs(is_clash(S, value), False)
        self.assertRaises(errors.InvalidScreens, find_clash, value)


if __name__ == "__main__":
    unittest.main()
