"""Points 17, 18 and 10 (c)."""

import unittest
from itertools import permutations
from math import factorial

from tests import helpers, universe
from tests.helpers import BIG, S, check_raises
from topmatches import errors
from topmatches.rankings import count_rankings, is_ranking, nth_ranking, ranking_index

SIDE_BY_SIDE = [("b", 1, ["b"]), ("a", 1, ["a"]), ("c", 1, ["c"])]
LETTERS = list("abcdefghijklmnopqrst")


def number_by_formula(screens):
    """The number of rankings as point 10 (c) tells it, with the words below a word as point 6 defines them."""
    known = universe.known_of(screens)
    divisor = 1
    for word in known:
        divisor *= 1 + sum(any(helpers.puts(screen, word, other) for screen in screens) for other in known)
    return factorial(len(known)) // divisor


def wrong_rankings(ranking):
    """Values that are no rankings, made of one: with words left out, doubled, replaced, put in or of other kinds."""
    found = [tuple(ranking), {word: 1 for word in ranking}, set(ranking), " ".join(ranking), [ranking], ranking[::-1]]
    for at, word in enumerate(ranking):
        before, behind = ranking[:at], ranking[at + 1:]
        found.append(before + behind)
        found += [before + [other] + behind for other in ["cow", "", word.upper(), word + "s", None, 1, [word], (word,)]]
        found += [before + [other] + ranking[at:] for other in ["cow", word, None, "x"]]
        found += [before + [other] + behind for other in before + behind]
    return found + [ranking + [word] for word in ranking + ["cow", "", None]]


class RankingsTest(unittest.TestCase):
    def test_numbers_of_rankings(self):
        self.assertEqual([count_rankings(S), count_rankings(S[1:]), count_rankings(S[:1])], [2, 6, 1])
        self.assertEqual(count_rankings([("c", 2, ["car", "cat"]), ("d", 2, ["dog", "dot"]), ("x", 1, ["x"])]), 30)

    def test_no_known_words(self):
        for screens in [[], [("", 1, [])], [("x", 20, [])] * 20]:
            self.assertEqual(count_rankings(screens), 1)
            self.assertIs(is_ranking(screens, []), True)
            self.assertEqual(nth_ranking(screens, 0), [])
            self.assertEqual(ranking_index(screens, []), 0)
            for value in [(), ["a"], None, {}, "", [[]]]:
                self.assertIs(is_ranking(screens, value), False)
                check_raises(self, errors.NotRanking, ranking_index, screens, value)
            check_raises(self, errors.InvalidNumber, nth_ranking, screens, 1)

    def test_one_known_word(self):
        for screens in [[("", 1, ["a"])], [("a", 20, ["a"])] * 20, [("x", 3, []), ("a", 1, ["a"])]]:
            self.assertEqual(count_rankings(screens), 1)
            self.assertEqual(nth_ranking(screens, 0), ["a"])
            self.assertEqual(ranking_index(screens, ["a"]), 0)
            self.assertIs(is_ranking(screens, ["a"]), True)
            self.assertIs(is_ranking(screens, []), False)
            check_raises(self, errors.InvalidNumber, nth_ranking, screens, 1)

    def test_one_screen_that_shows_all(self):
        screens = [("", 20, LETTERS[::-1])]
        self.assertEqual(count_rankings(screens), 1)
        self.assertEqual(nth_ranking(screens, 0), LETTERS[::-1])
        self.assertEqual(ranking_index(screens, LETTERS[::-1]), 0)
        self.assertIs(is_ranking(screens, LETTERS), False)

    def test_no_word_above_another_one(self):
        rows = sorted(list(row) for row in permutations("abc"))
        self.assertEqual(count_rankings(SIDE_BY_SIDE), 6)
        self.assertEqual([nth_ranking(SIDE_BY_SIDE, number) for number in range(6)], rows)
        self.assertEqual([ranking_index(SIDE_BY_SIDE, row) for row in rows], list(range(6)))
        screens = [(one, 1, [one]) for one in LETTERS]
        self.assertEqual(count_rankings(screens), factorial(20))
        self.assertEqual(nth_ranking(screens, 0), LETTERS)
        self.assertEqual(nth_ranking(screens, factorial(20) - 1), LETTERS[::-1])
        self.assertEqual(nth_ranking(screens, factorial(19)), ["b", "a"] + LETTERS[2:])
        self.assertEqual(ranking_index(screens, ["b", "a"] + LETTERS[2:]), factorial(19))
        check_raises(self, errors.InvalidNumber, nth_ranking, screens, factorial(20))

    def test_a_screen_that_stands_twice(self):
        for screens in [S, S[1:], SIDE_BY_SIDE]:
            twice = screens + screens[::-1]
            self.assertEqual(count_rankings(twice), count_rankings(screens))
            for number in range(count_rankings(screens)):
                self.assertEqual(nth_ranking(twice, number), nth_ranking(screens, number))

    def test_words_that_a_screen_does_not_show_stand_below(self):
        screens = [("", 1, ["b"]), ("a", 1, ["ab"]), ("ac", 1, ["aca"]), ("c", 1, ["c"])]
        self.assertEqual(count_rankings(screens), 3)
        self.assertEqual(nth_ranking(screens, 0), ["b", "ab", "aca", "c"])
        self.assertEqual(nth_ranking(screens, 2), ["b", "c", "ab", "aca"])

    def test_numbers_go_by_lists_not_by_joined_letters(self):
        screens = [("a", 1, ["a"]), ("b", 1, ["b"]), ("ab", 1, ["ab"])]
        self.assertEqual([nth_ranking(screens, number) for number in range(3)],
                         [["a", "ab", "b"], ["a", "b", "ab"], ["b", "a", "ab"]])

    def test_first_last_and_next_number(self):
        for screens in [S, S[1:], SIDE_BY_SIDE]:
            many = count_rankings(screens)
            rows = universe.all_rankings(screens)
            self.assertEqual([nth_ranking(screens, 0), nth_ranking(screens, many - 1)], [rows[0], rows[-1]])
            for number in [many, many + 1, BIG]:
                check_raises(self, errors.InvalidNumber, nth_ranking, screens, number)


class AllSequencesTest(unittest.TestCase):
    def check(self, screens):
        rows = universe.all_rankings(screens)
        self.assertEqual(count_rankings(screens), len(rows))
        self.assertEqual(number_by_formula(screens), len(rows))
        for number, row in enumerate(rows):
            self.assertEqual(nth_ranking(screens, number), row)
            self.assertEqual(ranking_index(screens, row), number)
        check_raises(self, errors.InvalidNumber, nth_ranking, screens, len(rows))

    def test_a_few_words(self):
        for row in universe.rows_without_clash(1, 300):
            self.check(universe.screens_of(row))

    def test_more_words(self):
        for number in range(60):
            self.check(universe.larger_screens(number))

    def test_is_ranking_goes_by_the_definition(self):
        words = universe.WORDS + ["ba"]
        for row in universe.rows_without_clash(5, 40):
            screens = universe.screens_of(row)
            rows = universe.all_rankings(screens)
            for value in helpers.sequences(words):
                self.assertIs(is_ranking(screens, value), value in rows)
        for number in range(12):
            screens = universe.larger_screens(number)
            rows = universe.all_rankings(screens)
            for value in permutations(universe.known_of(screens)):
                self.assertIs(is_ranking(screens, list(value)), list(value) in rows)

    def test_values_that_are_no_rankings(self):
        for screens in [S, S[1:], SIDE_BY_SIDE]:
            rows = universe.all_rankings(screens)
            for row in rows:
                for value in wrong_rankings(row) + helpers.NOT_DICTIONARIES:
                    if type(value) is not list or value not in rows:
                        with self.subTest(screens=screens, value=value):
                            self.assertIs(is_ranking(screens, value), False)
                            check_raises(self, errors.NotRanking, ranking_index, screens, value)


class LimitsTest(unittest.TestCase):
    def check(self, screens):
        many = count_rankings(screens)
        self.assertEqual(many, number_by_formula(screens))
        last = None
        for number in sorted({0, 1, many // 7, many // 3, many // 3 + 1, many // 2, many - 2, many - 1}):
            row = nth_ranking(screens, number)
            self.assertIs(is_ranking(screens, row), True)
            self.assertEqual(ranking_index(screens, row), number)
            self.assertTrue(last is None or last < row)
            last = row
        for number in [-1, many, BIG, -BIG]:
            check_raises(self, errors.InvalidNumber, nth_ranking, screens, number)

    def test_400_words_side_by_side(self):
        screens = helpers.wide_screens()
        many = count_rankings(screens)
        self.assertEqual(many, factorial(400) // factorial(20) ** 20)
        self.assertEqual(nth_ranking(screens, 0), universe.known_of(screens))
        self.assertEqual(nth_ranking(screens, many - 1), [word for screen in screens[::-1] for word in screen[2]])
        self.check(screens)

    def test_400_words_in_one_row(self):
        screens = helpers.deep_screens()
        row = [word for screen in screens for word in screen[2]]
        for ordered in [screens, screens[::-1]]:
            self.assertEqual(count_rankings(ordered), 1)
            self.assertEqual(nth_ranking(ordered, 0), row)
            self.assertEqual(ranking_index(ordered, row), 0)
            check_raises(self, errors.InvalidNumber, nth_ranking, ordered, 1)
            check_raises(self, errors.NotRanking, ranking_index, ordered, row[:398] + [row[399], row[398]])
            check_raises(self, errors.NotRanking, ranking_index, ordered, row[:399])

    def test_rows_below_a_row(self):
        screens = helpers.branching_screens()
        self.assertEqual(count_rankings(screens), factorial(361) // factorial(19) ** 19)
        self.check(screens)
        self.check(screens[::-1])

    def test_words_of_30_letters(self):
        screens = [("z" * 29, 2, ["z" * 30, "z" * 29]), ("y" * 30, 1, ["y" * 30])]
        self.assertEqual(nth_ranking(screens, 1), ["z" * 30, "y" * 30, "z" * 29])
        self.assertEqual(ranking_index(screens, ["z" * 30, "z" * 29, "y" * 30]), 2)


if __name__ == "__main__":
    unittest.main()
