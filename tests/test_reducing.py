"""Points 8, 10 (f), 24 and 25."""

import unittest
from itertools import permutations, product

from tests import helpers, universe
from tests.helpers import CLASHING, MISSING, S, check_raises, shows
from tests.universe import SCREENS, screens_of
from topmatches import errors
from topmatches.reducing import is_implied, reduced, say_same, telling_dictionary

LETTERS = "abcdefghijklmnopqrst"
C = ("c", 2, ["car", "cat"])
CA = ("ca", 1, ["car"])


def decides(screen, other):
    """Whether the screen decides the beginning and the limit of the other one, as point 8 defines it."""
    own, own_limit, shown = screen
    beginning, limit, _ = other
    if beginning[:len(own)] != own:
        return False
    return len(shown) < own_limit or len([word for word in shown if word[:len(beginning)] == beginning]) >= limit


def remaining(screens):
    """The numbers of the screens that remain, as point 24 defines it."""
    found = []
    for i, one in enumerate(screens):
        deciding = [k for k, other in enumerate(screens) if k != i and decides(other, one)]
        if all(decides(one, screens[k]) and i < k for k in deciding):
            found.append(i)
    return found


class Checks(unittest.TestCase):
    def check_reduced(self, screens, expected):
        self.assertEqual(reduced(screens), expected, screens)
        self.assertEqual(remaining(screens), expected)

    def check_implied(self, screens, expected):
        self.assertEqual([is_implied(screens, index) for index in range(len(screens))], expected, screens)
        for index in [-1, len(screens), len(screens) + 1]:
            check_raises(self, errors.InvalidIndex, is_implied, screens, index)

    def check_pair(self, one, other, same):
        """Check what is told of two lists of screens that say the same, or not."""
        for screens, second in [(one, other), (other, one)]:
            self.assertIs(say_same(screens, second), same, (screens, second))
            found = telling_dictionary(screens, second)
            if same:
                self.assertIsNone(found)
            else:
                self.assertTrue(helpers.is_dictionary(found), found)
                fits_both = [all(shows(found, screen) for screen in row) for row in [screens, second]]
                self.assertEqual(sorted(fits_both), [False, True], (screens, second, found))


class ImpliedTest(Checks):
    def test_full_and_short_screens(self):
        self.check_implied([C, CA], [False, True])
        self.check_implied([CA, C], [True, False])
        self.check_implied(S, [False, False, False])
        self.check_implied([C, ("ca", 2, ["car", "cat"])], [False, True])
        self.check_implied([C, ("ca", 3, ["car", "cat", "ca"])], [False, False])
        self.check_implied([C, ("c", 3, ["car", "cat"])], [True, False])
        self.check_implied([("c", 3, ["car", "cat"]), ("cab", 20, [])], [False, True])
        self.check_implied([("c", 3, ["car", "cat"]), ("d", 20, [])], [False, False])

    def test_one_screen(self):
        for screen in [("", 1, []), ("", 20, ["a"]), ("x", 3, []), C]:
            self.check_implied([screen], [False])

    def test_the_same_screen_twice(self):
        self.check_implied([C, C], [True, True])
        self.check_implied([C, CA, C], [True, True, True])
        self.check_implied([("", 1, [])] * 20, [True] * 20)

    def test_screens_that_decide_one_another(self):
        self.check_implied([("c", 3, ["car"]), ("c", 4, ["car"])], [True, True])
        self.check_implied([("c", 3, ["car"]), ("c", 2, ["car"]), ("c", 1, ["car"])], [True, True, True])

    def test_longer_beginnings_imply_no_shorter_one(self):
        self.check_implied([("c" + one, 1, []) for one in LETTERS[:19]] + [("c", 1, [])], [True] * 19 + [False])
        self.check_implied([(one, 1, [one]) for one in LETTERS[:19]] + [("", 20, list(LETTERS[:19]))],
                           [True] * 19 + [False])

    def test_20_screens_of_20_words(self):
        for screens in [helpers.wide_screens(), helpers.deep_screens(), helpers.branching_screens()]:
            self.check_implied(screens, [False] * 20)
            self.check_reduced(screens, list(range(20)))
        screens = helpers.wide_screens()
        shorter = [(beginning, 19, shown[:19]) for beginning, _, shown in screens]
        self.check_implied(screens[:10] + shorter[:10], [False] * 10 + [True] * 10)
        self.check_implied(screens[:10] + shorter[10:], [False] * 20)

    def test_no_screens(self):
        for value in [0, 1, -1, True, None]:
            check_raises(self, errors.InvalidIndex, is_implied, [], value)

    def test_values_that_are_no_index(self):
        for value in helpers.NOT_NUMBERS + [3, 20, S[0]]:
            with self.subTest(value=value):
                check_raises(self, errors.InvalidIndex, is_implied, S, value)
                check_raises(self, errors.InvalidScreens, is_implied, tuple(S), value)
                check_raises(self, errors.ScreensClash, is_implied, CLASHING, value)


class ReducedTest(Checks):
    def test_no_screens_and_one(self):
        self.check_reduced([], [])
        for screen in [("", 1, []), ("", 20, ["a"]), ("x", 3, []), C]:
            self.check_reduced([screen], [0])

    def test_the_earlier_one_of_two_that_decide_one_another_remains(self):
        self.check_reduced([C, C], [0])
        self.check_reduced([C] * 20, [0])
        self.check_reduced([CA, C, C], [1])
        self.check_reduced([CA, C, CA, C], [1])
        for size in range(1, 5):
            for row in permutations([("c", limit, ["car"]) for limit in range(2, 2 + size)]):
                self.check_reduced(list(row), [0])

    def test_only_one_decides_the_other(self):
        self.check_reduced([C, ("c", 3, ["car", "cat"])], [1])
        self.check_reduced([("c", 3, ["car", "cat"]), C], [0])
        self.check_reduced([("c", limit, list(("ca", "cb", "cc"))[:limit]) for limit in [1, 3, 2]], [1])
        self.check_reduced([("c", 1, ["ca"]), ("c", 2, ["ca"]), ("c", 1, ["ca"]), ("c", 20, ["ca"])], [1])

    def test_short_screens_leave_out_all_that_begins_so(self):
        self.check_reduced([("do", 3, ["dog", "dot"]), ("dot", 1, ["dot"]), ("dox", 5, []), ("d", 1, ["dog"])], [0, 3])
        self.check_reduced([("x" * size, 1, []) for size in range(20)], [0])
        self.check_reduced([("x" * size, 1, []) for size in range(20, 0, -1)], [19])

    def test_all_remain(self):
        self.check_reduced(S, [0, 1, 2])
        self.check_reduced([(one, 1, [one]) for one in LETTERS], list(range(20)))

    def test_the_result_is_new(self):
        found = reduced(S)
        found.clear()
        self.assertEqual(reduced(S), [0, 1, 2])


class SayTest(Checks):
    def test_lists_that_say_the_same(self):
        self.check_pair([C, CA], [C], True)
        self.check_pair(S, S[::-1], True)
        self.check_pair(S, S + S, True)
        self.check_pair([("c", 3, ["car"])], [("c", 2, ["car"])], True)
        self.check_pair([("", 1, [])], [("", 20, []), ("x", 1, [])], True)
        for screens in [[], S, [C]]:
            self.check_pair(screens, list(screens), True)

    def test_lists_that_do_not(self):
        self.check_pair([C, CA], [CA], False)
        self.check_pair([], [("x", 1, [])], False)
        self.check_pair([], [("", 1, ["a"])], False)
        self.check_pair([C], [("c", 1, ["car"])], False)
        self.check_pair([C], [("c", 3, ["car", "cat"])], False)
        self.check_pair([C], [("c", 2, ["cat", "car"])], False)
        self.check_pair([("c", 1, ["car"])], [("c", 1, ["cat"])], False)
        self.check_pair([("c", 1, ["car"])], [("d", 1, ["dog"])], False)
        self.check_pair([("c", 1, [])], [("", 1, [])], False)
        self.check_pair(S, S[1:], False)
        self.check_pair(S, S[:2], False)

    def test_lists_that_clash_with_one_another(self):
        self.check_pair(CLASHING[:1], CLASHING[1:], False)
        self.check_pair(MISSING[:1], MISSING[1:], False)
        self.check_pair([("", 1, [])], [("", 1, ["a"])], False)
        self.check_pair([("c", 3, ["car"])], [("ca", 3, ["cat"])], False)

    def test_the_same_answer_of_another_list_is_needed(self):
        # Each screen of one list is decided by one of the other list, but with another answer.
        self.check_pair([("", 2, ["a", "b"])], [("", 2, ["b", "a"])], False)
        self.check_pair([("", 3, ["a", "b"])], [("", 3, ["a"])], False)
        self.check_pair([("", 3, ["a"]), ("b", 1, [])], [("", 3, ["a"]), ("c", 1, [])], True)

    def test_the_telling_words_one_thinks_of_are_shown(self):
        for end in ["a", "aa", "b", "z"]:
            self.check_pair([("c", 1, ["c"])], [("c", 2, ["c", "c" + end])], False)
            self.check_pair([], [("c", 1, ["c" + end])], False)
            self.check_pair([("cx", 1, [])], [("c", 1, ["c" + end])], False)

    def test_20_screens_of_20_words(self):
        lists = [helpers.wide_screens(), helpers.deep_screens(), helpers.branching_screens()]
        for screens in lists:
            self.check_pair(screens, screens[::-1], True)
            self.check_pair(screens, screens[:19], False)
            beginning, _, shown = screens[-1]
            self.check_pair(screens, screens[:19] + [(beginning, 19, shown[:19])], False)
            self.check_pair(screens, screens[:19] + [(beginning, 20, shown[:19])], False)
        self.check_pair(lists[0], lists[1], False)
        self.check_pair([(one, 1, []) for one in LETTERS], [("", 1, [])], False)

    def test_a_new_dictionary(self):
        one, other = [C], [("c", 1, ["car"])]
        found = telling_dictionary(one, other)
        expected = list(found)
        found.clear()
        self.assertEqual([one, other], [[C], [("c", 1, ["car"])]])
        self.assertEqual(telling_dictionary(one, other), expected)

    def test_errors_of_the_first_list_come_first(self):
        for function in [say_same, telling_dictionary]:
            for value in helpers.NOT_SCREEN_LISTS:
                with self.subTest(value=value):
                    check_raises(self, errors.InvalidScreens, function, value, S)
                    check_raises(self, errors.InvalidScreens, function, value, CLASHING)
                    check_raises(self, errors.InvalidScreens, function, value, None)
                    check_raises(self, errors.InvalidScreens, function, S, value)
                    error = check_raises(self, errors.ScreensClash, function, CLASHING, value)
                    self.assertIn(error.clash, helpers.all_clashes(CLASHING))
            error = check_raises(self, errors.ScreensClash, function, MISSING, CLASHING)
            self.assertIn(error.clash, helpers.all_clashes(MISSING))
            error = check_raises(self, errors.ScreensClash, function, S, MISSING)
            self.assertIn(error.clash, helpers.all_clashes(MISSING))


class AllDictionariesTest(Checks):
    @classmethod
    def setUpClass(cls):
        cls.all_of_them = universe.with_new_words()
        cls.rows = list(universe.rows_without_clash(2, 60)) + list(universe.agreeing_rows(4, [2, 3, 4, 6, 20]))

    def fitting(self, row):
        return [every.fitting(row) for every in self.all_of_them]

    def shown(self, row, number):
        """Whether all dictionaries that fit the row show the screen with this number, too."""
        return self.fitting([*row, number]) == self.fitting(row)

    def test_is_implied(self):
        told = []
        for row in self.rows:
            expected = [self.shown(row[:at] + row[at + 1:], number) for at, number in enumerate(row)]
            self.check_implied(screens_of(row), expected)
            told += expected
        self.assertEqual({True, False}, set(told))

    def test_is_implied_for_all_pairs(self):
        for row in product(range(len(SCREENS)), repeat=2):
            if universe.SMALL.fitting(row):
                expected = [self.shown([row[1]], row[0]), self.shown([row[0]], row[1])]
                self.check_implied(screens_of(row), expected)

    def test_reduced(self):
        for row in self.rows:
            screens = screens_of(row)
            found = reduced(screens)
            self.check_reduced(screens, found)
            rest = [row[number] for number in found]
            self.assertEqual(self.fitting(rest), self.fitting(row))
            self.check_pair(screens, screens_of(rest), True)
            self.check_implied(screens_of(rest), [False] * len(rest))
            self.assertEqual(reduced(screens_of(rest)), list(range(len(rest))))

    def test_say_same(self):
        told = {True: 0, False: 0}
        for row, other in self.pairs():
            same = self.fitting(row) == self.fitting(other)
            self.check_pair(screens_of(row), screens_of(other), same)
            decided = [
                any(decides(screen, asked) and shows(screen[2], asked) for screen in screens_of(deciding))
                for rows, deciding in [(row, other), (other, row)] for asked in screens_of(rows)
            ]
            self.assertIs(all(decided), same)
            told[same] += 1
        self.assertGreater(min(told.values()), 100)

    def pairs(self):
        """Pairs of rows that say the same or nearly so, and pairs that do not."""
        for number, row in enumerate(self.rows):
            yield row, self.rows[number * 31 % len(self.rows)]
            for step in [2, 3]:
                yield row, row[::step]
                yield row[::-1], row[1::step]
        for row in universe.agreeing_rows(9, [10, 20]):
            yield row[:len(row) // 2], row[len(row) // 2:]

    def test_all_pairs_of_single_screens(self):
        for one, other in product(range(0, len(SCREENS)), range(0, len(SCREENS), 3)):
            self.check_pair([SCREENS[one]], [SCREENS[other]], self.fitting([one]) == self.fitting([other]))

    def test_larger_screens(self):
        for number in range(60):
            screens = universe.larger_screens(number)
            self.check_reduced(screens, remaining(screens))
            rest = [screens[at] for at in remaining(screens)]
            self.check_pair(screens, rest, True)
            self.check_implied(rest, [False] * len(rest))
            self.check_pair(rest, rest[1:], False)


if __name__ == "__main__":
    unittest.main()
