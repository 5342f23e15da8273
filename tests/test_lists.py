"""Point 23: the answers of all rankings."""

import unittest
from itertools import permutations
from math import comb, factorial

from tests import helpers, universe
from tests.helpers import BIG, S, answer, check_raises
from topmatches import errors
from topmatches.lists import answer_index, count_answers, nth_answer
from topmatches.rankings import count_rankings, nth_ranking

LETTERS = list("abcdefghijklmnopqrst")
SIDE_BY_SIDE = [(one, 1, [one]) for one in LETTERS]


def answers_of(screens, beginning, limit):
    """The answers that the rankings have, in ascending order."""
    found = {tuple(answer(row, beginning, limit)) for row in universe.all_rankings(screens)}
    return [list(row) for row in sorted(found)]


def wrong_answers(shown):
    """Values made of an answer, with words left out, doubled, replaced, put in or of other kinds."""
    found = [tuple(shown), set(shown), {word: 1 for word in shown}, " ".join(shown), [shown], shown[::-1], None]
    for at, word in enumerate(shown):
        before, behind = shown[:at], shown[at + 1:]
        found.append(before + behind)
        found += [before + [other] + behind for other in ["cow", "ca", "", word + "s", word.upper(), None, 1, [word]]]
        found += [before + [other] + shown[at:] for other in ["cow", word, None]]
    return found + [shown + [word] for word in shown + ["cow", "car", "dot", "", None]]


class Checks(unittest.TestCase):
    def check(self, screens, beginning, limit, expected):
        """Check all that is told of the answers, of which these are all."""
        self.assertEqual(count_answers(screens, beginning, limit), len(expected))
        for number, shown in enumerate(expected):
            self.assertEqual(nth_answer(screens, beginning, limit, number), shown)
            self.assertEqual(answer_index(screens, beginning, limit, shown), number)
        for number in [-1, len(expected), len(expected) + 1, BIG]:
            check_raises(self, errors.InvalidNumber, nth_answer, screens, beginning, limit, number)


class AnswersTest(Checks):
    def test_the_screens_of_the_document(self):
        self.check(S, "", 1, [["car"]])
        self.check(S, "", 2, [["car", "dog"]])
        self.check(S, "", 3, [["car", "dog", "cat"], ["car", "dog", "dot"]])
        self.check(S, "", 4, [["car", "dog", "cat", "dot"], ["car", "dog", "dot", "cat"]])
        self.check(S, "", 20, [["car", "dog", "cat", "dot"], ["car", "dog", "dot", "cat"]])
        self.check(S, "d", 1, [["dog"]])
        self.check(S, "d", 2, [["dog", "dot"]])
        self.check(S, "cat", 1, [["cat"]])
        self.check(S, "x", 1, [[]])
        self.check(S[1:], "", 1, [["car"], ["dog"]])
        self.check(S[1:], "", 2, [["car", "cat"], ["car", "dog"], ["dog", "car"], ["dog", "dot"]])

    def test_no_known_words(self):
        for screens in [[], [("", 1, [])], [("x", 20, [])] * 20]:
            for beginning in ["", "x", "a" * 30]:
                for limit in [1, 20]:
                    self.check(screens, beginning, limit, [[]])
                    for value in [(), None, ["a"], ["x"], {}, ""]:
                        check_raises(self, errors.NotAnswer, answer_index, screens, beginning, limit, value)

    def test_one_known_word(self):
        for screens in [[("", 1, ["a"])], [("a", 2, ["a"])] * 20]:
            for beginning in ["", "a"]:
                for limit in [1, 2, 20]:
                    self.check(screens, beginning, limit, [["a"]])
            self.check(screens, "aa", 1, [[]])
            check_raises(self, errors.NotAnswer, answer_index, screens, "", 1, [])

    def test_one_screen_that_shows_all(self):
        for limit in range(1, 21):
            self.check([("", 20, LETTERS[::-1])], "", limit, [LETTERS[:-limit - 1:-1]])

    def test_no_word_above_another_one(self):
        for limit in [1, 2, 3]:
            self.check(SIDE_BY_SIDE[:5], "", limit, [list(row) for row in permutations(LETTERS[:5], limit)])
        for limit in range(1, 21):
            many = factorial(20) // factorial(20 - limit)
            self.assertEqual(count_answers(SIDE_BY_SIDE, "", limit), many)
            self.assertEqual(nth_answer(SIDE_BY_SIDE, "", limit, 0), LETTERS[:limit])
            self.assertEqual(nth_answer(SIDE_BY_SIDE, "", limit, many - 1), LETTERS[:-limit - 1:-1])
            self.assertEqual(answer_index(SIDE_BY_SIDE, "", limit, LETTERS[:-limit - 1:-1]), many - 1)
            check_raises(self, errors.InvalidNumber, nth_answer, SIDE_BY_SIDE, "", limit, many)

    def test_words_that_do_not_match_hold_nothing_up(self):
        screens = [("", 2, ["b", "ca"]), ("c", 2, ["ca", "cb"]), ("ca", 3, ["ca", "caa"]), ("d", 1, ["da"])]
        self.check(screens, "c", 2, [["ca", "cb"]])
        self.check(screens, "c", 3, [["ca", "cb", "caa"]])
        self.check(screens, "ca", 2, [["ca", "caa"]])
        self.check([("", 1, ["b"]), ("ca", 1, ["cab"]), ("cb", 1, ["cba"])], "c", 2, [["cab", "cba"], ["cba", "cab"]])

    def test_a_screen_that_stands_twice(self):
        for beginning, limit in [("", 1), ("", 3), ("c", 2), ("d", 20)]:
            self.check(S[1:] + S[:0:-1], beginning, limit, answers_of(S[1:], beginning, limit))

    def test_beginnings_of_30_letters(self):
        screens = helpers.wide_screens()
        for word in screens[3][2][::5]:
            self.check(screens, word, 1, [[word]])
            self.check(screens, word, 20, [[word]])
        self.check(screens, "z" * 30, 20, [[]])

    def test_the_answer_is_new(self):
        for number in range(4):
            found = nth_answer(S[1:], "", 2, number)
            again = list(found)
            found.clear()
            self.assertEqual(nth_answer(S[1:], "", 2, number), again)

    def test_values_that_are_no_answers(self):
        for screens in [S, S[1:], [("c", 1, ["car"]), ("d", 1, ["dog"]), ("ca", 2, ["car", "cat"])]]:
            for beginning, limit in [("", 1), ("", 2), ("", 3), ("", 20), ("c", 1), ("c", 2), ("d", 2), ("x", 1)]:
                expected = answers_of(screens, beginning, limit)
                for shown in expected:
                    for value in wrong_answers(shown):
                        if type(value) is not list or value not in expected:
                            with self.subTest(screens=screens, value=value):
                                check_raises(self, errors.NotAnswer, answer_index, screens, beginning, limit, value)
                for value in helpers.NOT_DICTIONARIES:
                    check_raises(self, errors.NotAnswer, answer_index, screens, beginning, limit, value)

    def test_answers_of_other_dictionaries(self):
        # Some dictionary that fits has these answers, but no ranking.
        check_raises(self, errors.NotAnswer, answer_index, S, "c", 3, ["car", "cat", "cab"])
        check_raises(self, errors.NotAnswer, answer_index, S, "x", 1, ["xa"])
        check_raises(self, errors.NotAnswer, answer_index, S, "", 3, ["car", "dog", "cow"])
        check_raises(self, errors.NotAnswer, answer_index, S[1:], "", 1, ["ant"])


class AllRankingsTest(Checks):
    def test_a_few_words(self):
        for row in universe.rows_without_clash(2, 100):
            screens = universe.screens_of(row)
            for beginning in ["", "a", "ab", "b", "c"]:
                for limit in [1, 2, 3, 4]:
                    self.check(screens, beginning, limit, answers_of(screens, beginning, limit))

    def test_more_words(self):
        for number in range(40):
            screens = universe.larger_screens(number)
            for beginning in ["", "a", "b", "ab"]:
                for limit in [2, 3, 5, 20]:
                    self.check(screens, beginning, limit, answers_of(screens, beginning, limit))

    def test_exactly_the_answers_of_the_rankings(self):
        for number in range(0, 40, 8):
            screens = universe.larger_screens(number)
            known = universe.known_of(screens)
            expected = answers_of(screens, "", 3)
            for shown in helpers.sequences(known):
                if shown in expected:
                    self.assertEqual(answer_index(screens, "", 3, shown), expected.index(shown))
                else:
                    check_raises(self, errors.NotAnswer, answer_index, screens, "", 3, shown)


class LimitsTest(unittest.TestCase):
    def check(self, screens, beginning, limit, many):
        self.assertEqual(count_answers(screens, beginning, limit), many)
        last = None
        for number in sorted({0, 1, many // 7, many // 3, many // 3 + 1, many // 2, many - 2, many - 1}):
            shown = nth_answer(screens, beginning, limit, number)
            self.assertEqual(len(shown), limit)
            self.assertEqual(answer_index(screens, beginning, limit, shown), number)
            self.assertTrue(last is None or last < shown)
            last = shown
        for number in [-1, many, BIG, -BIG]:
            check_raises(self, errors.InvalidNumber, nth_answer, screens, beginning, limit, number)

    def test_400_words_side_by_side(self):
        screens = helpers.wide_screens()
        for limit in [1, 2, 7, 19, 20]:
            self.assertEqual(nth_answer(screens, "", limit, 0), screens[0][2][:limit])
            self.assertEqual(nth_answer(screens, "", limit, 20 ** limit - 1), screens[19][2][:limit])
            if limit > 1:
                self.check(screens, "", limit, 20 ** limit)
        for beginning, _, shown in screens[::5]:
            self.assertEqual(count_answers(screens, beginning, 20), 1)
            self.assertEqual(nth_answer(screens, beginning, 20, 0), shown)

    def test_400_words_in_one_row(self):
        screens = helpers.deep_screens()
        row = [word for screen in screens for word in screen[2]]
        for limit in [1, 20]:
            self.assertEqual(count_answers(screens, "", limit), 1)
            self.assertEqual(nth_answer(screens, "", limit, 0), row[:limit])
            self.assertEqual(answer_index(screens, "a" * 19, limit, row[380:380 + limit]), 0)
            check_raises(self, errors.InvalidNumber, nth_answer, screens, "", limit, 1)

    def test_rows_below_a_row(self):
        screens = helpers.branching_screens()[1:]
        self.check(screens, "", 20, 19 ** 20)
        self.check(screens[::-1], "", 12, 19 ** 12)

    def test_trees(self):
        # A short row, and below it two words side by side, in each of six trees.
        screens = []
        for one in LETTERS[:6]:
            screens += [(one, 2, [one + "x", one + "y"]), (one + "a", 1, [one + "a"]), (one + "b", 1, [one + "b"])]
        self.assertEqual(len(screens), 18)
        rows = [1, 1, 1, 2, 2]
        many = [1] + [0] * 20
        for _ in range(6):
            many = [
                sum(comb(size, part) * rows[part] * many[size - part] for part in range(min(size, 4) + 1))
                for size in range(21)
            ]
        for limit in [2, 5, 14, 20]:
            self.check(screens, "", limit, many[limit])

    def test_all_of_a_ranking(self):
        # With a limit as large as the number of known words, the answers are the rankings.
        screens = [(one, 2, [one + "b", one + "a"]) for one in LETTERS[:10]]
        many = count_rankings(screens)
        self.assertEqual(many, factorial(20) // 2 ** 10)
        self.check(screens, "", 20, many)
        for number in [0, 1, many // 5, many - 1]:
            self.assertEqual(nth_answer(screens, "", 20, number), nth_ranking(screens, number))


if __name__ == "__main__":
    unittest.main()
