"""Point 26, and points 2, 3 and 10 over notebooks."""

import random
import unittest

from tests import helpers, universe
from tests.helpers import CLASHING, MISSING, S, check_raises
from tests.universe import SCREENS, SMALL, screens_of
from topmatches import errors
from topmatches.answers import sure_answer
from topmatches.notebooks import Notebook
from topmatches.rankings import count_rankings
from topmatches.screens import known_words

LETTERS = "abcdefghijklmnopqrstuvwxyz"
QUESTIONS = [(beginning, limit) for beginning in ["", "a", "ab", "c"] for limit in [1, 2, 3]]


class Special(Notebook):
    """A notebook of another class."""


def side_by_side(count):
    """Screens of which none clashes with another one."""
    return [(one, 1, [one]) for one in LETTERS[:count]]


class Checks(unittest.TestCase):
    def check_holds(self, notebook, screens):
        """Check that the notebook tells of these screens what the functions tell."""
        self.assertEqual(notebook.screens_now, screens)
        self.assertEqual(notebook.words_now, known_words(screens))
        self.assertEqual(notebook.rankings_now, count_rankings(screens))
        self.assertEqual(len(notebook), len(screens))
        for beginning, limit in QUESTIONS:
            self.assertEqual(notebook.ask(beginning, limit), sure_answer(screens, beginning, limit))

    def check_undoes(self, notebook, states):
        """Check that undoing leads back through these states, the last one first, and no further."""
        for screens in reversed(states):
            self.assertIsNone(notebook.undo())
            self.assertEqual(notebook.screens_now, screens)
        check_raises(self, errors.NothingToUndo, notebook.undo)


class ConstructorTest(Checks):
    def test_screens(self):
        for screens in [[], S, S[:1], S * 6, side_by_side(20), [("", 1, [])] * 20, helpers.branching_screens()]:
            notebook = Notebook(*screens)
            self.check_holds(notebook, screens)
            check_raises(self, errors.NothingToUndo, notebook.undo)
            self.check_holds(notebook, screens)

    def test_arguments_that_are_no_screens(self):
        for value in helpers.NOT_SCREENS:
            with self.subTest(value=value):
                check_raises(self, errors.InvalidScreens, Notebook, value)
                check_raises(self, errors.InvalidScreens, Notebook, *S, value)
                check_raises(self, errors.InvalidScreens, Notebook, *CLASHING, value)
        check_raises(self, errors.InvalidScreens, Notebook, S)
        check_raises(self, errors.InvalidScreens, Notebook, *[("", 1, [])] * 21)
        check_raises(self, errors.InvalidScreens, Notebook, *CLASHING * 11)

    def test_screens_that_clash(self):
        for screens in [CLASHING, MISSING, S + CLASHING, CLASHING * 10]:
            error = check_raises(self, errors.ScreensClash, Notebook, *screens)
            self.assertIn(error.clash, helpers.all_clashes(screens))

    def test_the_most_screens(self):
        self.assertEqual(Notebook.MOST_SCREENS, 20)
        self.assertEqual(Notebook().MOST_SCREENS, 20)
        self.assertIs(type(Notebook.MOST_SCREENS), int)

    def test_later_changes_to_an_argument(self):
        shown = ["car", "cat"]
        notebook = Notebook(("c", 3, shown), ("c", 20, shown))
        shown.append("cab")
        self.check_holds(notebook, [("c", 3, ["car", "cat"]), ("c", 20, ["car", "cat"])])


class AddTest(Checks):
    def test_numbers(self):
        notebook = Notebook()
        for number, screen in enumerate(side_by_side(20)):
            self.assertEqual(notebook.add(*screen), number)
            self.check_holds(notebook, side_by_side(number + 1))

    def test_by_position_and_by_name(self):
        notebook = Notebook()
        self.assertEqual(notebook.add(shown=["a"], beginning="a", limit=1), 0)
        self.assertEqual(notebook.ask(limit=1, beginning="a"), ["a"])
        self.assertEqual(notebook.drop(index=0), ("a", 1, ["a"]))

    def test_the_same_screen_twice(self):
        notebook = Notebook(S[0])
        self.assertEqual(notebook.add(*S[0]), 1)
        self.check_holds(notebook, [S[0], S[0]])
        self.check_undoes(notebook, [[S[0]]])

    def test_wrong_arguments(self):
        for screens in [[], S, side_by_side(20)]:
            notebook = Notebook(*screens)
            for value in helpers.NOT_BEGINNINGS:
                for limit, shown in [(1, ["x"]), (None, ["x"]), (1, None)]:
                    check_raises(self, errors.InvalidBeginning, notebook.add, value, limit, shown)
                check_raises(self, errors.InvalidBeginning, notebook.ask, value, 1)
                check_raises(self, errors.InvalidBeginning, notebook.ask, value, None)
            for value in helpers.NOT_LIMITS:
                for shown in [["x"], [], None]:
                    check_raises(self, errors.InvalidLimit, notebook.add, "", value, shown)
                check_raises(self, errors.InvalidLimit, notebook.ask, "", value)
            for value in helpers.NOT_DICTIONARIES + [["dog"], ["car", "cat", "cab"], ("car",), ["c", "a"]]:
                with self.subTest(screens=screens, value=value):
                    check_raises(self, errors.InvalidList, notebook.add, "c", 2, value)
            check_raises(self, errors.InvalidList, notebook.add, "", 20, list(LETTERS[:21]))
            self.check_holds(notebook, screens)
            check_raises(self, errors.NothingToUndo, notebook.undo)

    def test_20_screens_and_one_more(self):
        notebook = Notebook(*side_by_side(19))
        self.assertEqual(notebook.add("x", 1, []), 19)
        # The second one clashes, too.
        for screen in [("x", 1, []), ("a", 1, ["ab"]), ("", 1, [])]:
            check_raises(self, errors.NotebookFull, notebook.add, *screen)
        check_raises(self, errors.InvalidList, notebook.add, "a", 1, ["b"])
        self.check_holds(notebook, side_by_side(19) + [("x", 1, [])])
        self.assertEqual(notebook.drop(0), ("a", 1, ["a"]))
        self.assertEqual(notebook.add("a", 1, ["ab"]), 19)
        check_raises(self, errors.NotebookFull, notebook.add, "y", 1, [])
        self.check_undoes(notebook, [
            side_by_side(19), side_by_side(19) + [("x", 1, [])], side_by_side(19)[1:] + [("x", 1, [])],
        ])

    def test_a_screen_that_clashes(self):
        for screens in [CLASHING, MISSING, MISSING[::-1], S + CLASHING[:1]]:
            notebook = Notebook(*screens[:-1])
            error = check_raises(self, errors.ScreensClash, notebook.add, *screens[-1])
            self.assertIn(error.clash, helpers.all_clashes(screens))
            self.assertIn(len(screens) - 1, error.clash[1:3])
            self.check_holds(notebook, screens[:-1])
            check_raises(self, errors.NothingToUndo, notebook.undo)

    def test_refuses_exactly_what_clashes(self):
        refused = added = 0
        for number, row in enumerate(universe.rows_without_clash(5, 30)):
            screens = screens_of(row)
            notebook = Notebook(*screens)
            for at in range(number % 5, len(SCREENS), 5):
                if SMALL.fitting([*row, at]):
                    self.assertEqual(notebook.add(*SCREENS[at]), len(row))
                    self.assertEqual(notebook.screens_now, screens + [SCREENS[at]])
                    notebook.undo()
                    added += 1
                else:
                    error = check_raises(self, errors.ScreensClash, notebook.add, *SCREENS[at])
                    self.assertIn(error.clash, helpers.all_clashes(screens + [SCREENS[at]]))
                    self.assertIn(len(row), error.clash[1:3])
                    refused += 1
            self.assertEqual(notebook.screens_now, screens)
            check_raises(self, errors.NothingToUndo, notebook.undo)
        self.assertGreater(min(refused, added), 500)

    def test_later_changes_to_an_argument(self):
        notebook = Notebook()
        shown = ["car", "cat"]
        notebook.add("c", 3, shown)
        shown.clear()
        notebook.add("d", 3, shown)
        shown.append("dog")
        self.assertEqual(notebook.screens_now, [("c", 3, ["car", "cat"]), ("d", 3, [])])
        self.assertEqual(shown, ["dog"])


class DropTest(Checks):
    def test_later_screens_move_up(self):
        for index in range(3):
            notebook = Notebook(*S)
            self.assertEqual(notebook.drop(index), S[index])
            self.check_holds(notebook, S[:index] + S[index + 1:])
            self.assertEqual(notebook.add(*S[index]), 2)
            self.check_holds(notebook, S[:index] + S[index + 1:] + [S[index]])

    def test_the_last_screen(self):
        notebook = Notebook(S[0])
        self.assertEqual(notebook.drop(0), S[0])
        self.check_holds(notebook, [])
        check_raises(self, errors.InvalidIndex, notebook.drop, 0)

    def test_a_dropped_screen_is_a_tuple_with_a_new_list(self):
        for notebook in [Notebook(*S), Notebook(S[0])]:
            found = notebook.drop(0)
            self.assertIs(type(found), tuple)
            found[2].append("x")
            notebook.undo()
            self.assertEqual(notebook.screens_now[0], ("", 2, ["car", "dog"]))
        self.assertEqual(S[0], ("", 2, ["car", "dog"]))

    def test_values_that_are_no_index(self):
        for screens in [[], S, side_by_side(20)]:
            notebook = Notebook(*screens)
            for value in helpers.NOT_NUMBERS + [len(screens), len(screens) + 1, S[0]]:
                with self.subTest(screens=screens, value=value):
                    check_raises(self, errors.InvalidIndex, notebook.drop, value)
            self.check_holds(notebook, screens)
            check_raises(self, errors.NothingToUndo, notebook.undo)


class UndoTest(Checks):
    def test_nothing_to_undo(self):
        for screens in [[], S]:
            notebook = Notebook(*screens)
            for _ in range(2):
                check_raises(self, errors.NothingToUndo, notebook.undo)
                self.check_holds(notebook, screens)

    def test_undo_is_not_undone(self):
        notebook = Notebook()
        notebook.add("a", 1, [])
        notebook.undo()
        check_raises(self, errors.NothingToUndo, notebook.undo)
        notebook.add("b", 1, [])
        notebook.add("c", 1, [])
        notebook.undo()
        notebook.undo()
        self.check_holds(notebook, [])
        check_raises(self, errors.NothingToUndo, notebook.undo)

    def test_a_dropped_screen_gets_its_number_again(self):
        for index in range(3):
            notebook = Notebook(*S)
            notebook.drop(index)
            self.assertIsNone(notebook.undo())
            self.check_holds(notebook, S)
            notebook.drop(index)
            notebook.add("x", 1, [])
            self.check_undoes(notebook, [S, S[:index] + S[index + 1:]])

    def test_all_screens_of_the_constructor_dropped(self):
        notebook = Notebook(*S)
        for _ in S:
            notebook.drop(0)
        self.check_holds(notebook, [])
        self.check_undoes(notebook, [S, S[1:], S[2:]])
        self.check_holds(notebook, S)

    def test_a_dropped_screen_that_would_clash_with_a_later_one(self):
        notebook = Notebook(CLASHING[0])
        notebook.drop(0)
        notebook.add(*CLASHING[1])
        check_raises(self, errors.ScreensClash, notebook.add, *CLASHING[0])
        self.check_undoes(notebook, [CLASHING[:1], []])


class CopyTest(Checks):
    def test_the_same_screens_and_operations(self):
        notebook = Notebook(S[0])
        notebook.add(*S[1])
        notebook.drop(0)
        copied = notebook.copy_of()
        self.assertIsNot(copied, notebook)
        self.assertEqual(copied, notebook)
        for one in [copied, notebook]:
            self.check_holds(one, [S[1]])
            self.check_undoes(one, [[S[0]], S[:2]])

    def test_a_copy_and_its_original_do_not_change_one_another(self):
        for changed, other in [(0, 1), (1, 0)]:
            notebook = Notebook(*S[:2])
            notebook.add(*S[2])
            pair = [notebook, notebook.copy_of()]
            pair[changed].drop(1)
            pair[changed].add("x", 1, [])
            self.check_holds(pair[other], S)
            self.check_holds(pair[changed], [S[0], S[2], ("x", 1, [])])
            pair[other].undo()
            self.check_holds(pair[changed], [S[0], S[2], ("x", 1, [])])
            self.check_undoes(pair[changed], [S[:2], S, [S[0], S[2]]])
            self.check_undoes(pair[other], [])
            self.check_holds(pair[other], S[:2])

    def test_screens_of_the_constructor_are_not_undone_in_a_copy(self):
        for screens in [[], S]:
            copied = Notebook(*screens).copy_of()
            check_raises(self, errors.NothingToUndo, copied.undo)
            self.check_holds(copied, screens)

    def test_the_class(self):
        for kind in [Notebook, Special]:
            for screens in [[], S]:
                notebook = kind(*screens)
                notebook.add("x", 1, [])
                copied = notebook.copy_of().copy_of()
                self.assertIs(type(copied), kind)
                self.check_undoes(copied, [screens])
                self.check_holds(notebook, screens + [("x", 1, [])])


class EqualityTest(unittest.TestCase):
    def check(self, one, other, equal):
        for left, right in [(one, other), (other, one)]:
            self.assertIs(left == right, equal)
            self.assertIs(left != right, not equal)

    def test_notebooks_with_the_same_screens(self):
        self.check(Notebook(), Notebook(), True)
        self.check(Notebook(*S), Notebook(*S), True)
        self.check(Notebook(*S), Special(*S), True)
        added = Notebook(S[0])
        added.add(*S[1])
        self.check(added, Notebook(*S[:2]), True)
        added.drop(1)
        self.check(added, Notebook(S[0]), True)
        self.check(added, Notebook(*S[:2]), False)
        added.undo()
        self.check(added, Notebook(*S[:2]), True)

    def test_notebooks_with_other_screens(self):
        lists = [
            [], S, S[::-1], S[:2], S + S[:1], [("c", 2, ["car"])], [("c", 3, ["car"])], [("ca", 2, ["car"])],
            [("c", 2, ["cat"])], [("c", 2, ["car", "cat"])], [("c", 2, ["cat", "car"])], [("c", 2, [])],
        ]
        for at, one in enumerate(lists):
            for number, other in enumerate(lists):
                self.check(Notebook(*one), Notebook(*other), at == number)

    def test_other_values(self):
        values = helpers.NOT_STRINGS + ["", S, tuple(S), S[0], 3, Notebook]
        for screens in [[], S]:
            for value in values:
                self.assertIs(Notebook(*screens) == value, False)
                self.assertIs(Notebook(*screens) != value, True)


class ResultsTest(unittest.TestCase):
    def test_kinds(self):
        notebook = Notebook(*S)
        for found, kind in [
            (notebook.screens_now, list), (notebook.screens_now[0], tuple), (notebook.screens_now[0][2], list),
            (notebook.words_now, list), (notebook.rankings_now, int), (notebook.add("x", 1, []), int),
            (notebook.drop(0), tuple), (notebook.ask("x", 1), list), (notebook.ask("c", 5), type(None)),
            (notebook.undo(), type(None)), (notebook.copy_of(), Notebook), (len(notebook), int),
        ]:
            self.assertIs(type(found), kind)

    def test_lists_are_new(self):
        notebook = Notebook(*S)
        for read in [
            lambda: notebook.screens_now, lambda: notebook.screens_now[1][2], lambda: notebook.words_now,
            lambda: notebook.ask("", 2), lambda: notebook.ask("do", 20),
        ]:
            found = read()
            expected = list(found)
            found.reverse()
            found.append("other")
            self.assertEqual(read(), expected)
            self.assertEqual(notebook.screens_now, S)

    def test_equal_calls_return_equal_results(self):
        for _ in range(3):
            notebook = Notebook(*S)
            self.assertEqual([notebook.rankings_now, notebook.words_now], [2, ["car", "cat", "dog", "dot"]])
            self.assertEqual([notebook.rankings_now, notebook.ask("c", 2)], [2, ["car", "cat"]])


class OperationsTest(Checks):
    """Many operations on one notebook, refused ones among them, beside a list of lists of screens."""

    def run_on(self, notebook, screens, chance, count):
        states = [list(screens)]
        for _ in range(count):
            self.step(notebook, states, chance)
            self.assertEqual(notebook, Notebook(*states[-1]))
        self.check_holds(notebook, states[-1])
        return states

    def step(self, notebook, states, chance):
        now = states[-1]
        kind = chance.choice(["add", "add", "add", "drop", "undo", "wrong"])
        if kind == "add":
            self.step_add(notebook, states, chance.choice(SCREENS))
        elif kind == "drop" and now:
            index = chance.randrange(len(now))
            self.assertEqual(notebook.drop(index), now[index])
            states.append(now[:index] + now[index + 1:])
        elif kind == "undo" and len(states) > 1:
            notebook.undo()
            states.pop()
        else:
            check_raises(self, errors.InvalidIndex, notebook.drop, len(now))
            check_raises(self, errors.InvalidIndex, notebook.drop, -1)
            check_raises(self, errors.InvalidLimit, notebook.add, "", 0, [])
            check_raises(self, errors.InvalidList, notebook.add, "", 1, ["a", "b"])
        self.check_holds(notebook, states[-1])

    def step_add(self, notebook, states, screen):
        now = states[-1]
        clashes = helpers.all_clashes(now + [screen])
        if clashes:
            error = check_raises(self, errors.ScreensClash, notebook.add, *screen)
            self.assertIn(error.clash, clashes)
        else:
            self.assertEqual(notebook.add(*screen), len(now))
            states.append(now + [screen])

    def test_operations_and_undoing_all(self):
        for number, row in enumerate(universe.agreeing_rows(4, [0, 1, 2, 3])):
            screens = screens_of(row)
            notebook = Notebook(*screens)
            states = self.run_on(notebook, screens, random.Random(number), 25)
            self.check_undoes(notebook, states[:-1])
            self.check_holds(notebook, screens)

    def test_copies_between_operations(self):
        for number in range(12):
            chance = random.Random(number)
            notebook = Notebook()
            states = self.run_on(notebook, [], chance, 15)
            copied = notebook.copy_of()
            later = self.run_on(notebook, states[-1], chance, 1)
            self.check_undoes(copied, states[:-1])
            self.check_holds(notebook, later[-1])

    def test_60_calls_with_20_words_each(self):
        for screens in [helpers.wide_screens(), helpers.deep_screens(), helpers.branching_screens()]:
            notebook = Notebook()
            for number, screen in enumerate(screens):
                self.assertEqual(notebook.add(*screen), number)
            self.assertEqual(notebook.rankings_now, count_rankings(screens))
            self.assertEqual(len(notebook.words_now), len(universe.known_of(screens)))
            for screen in screens:
                self.assertEqual(notebook.drop(0), screen)
            for number in range(20):
                self.assertEqual(len(notebook), number)
                notebook.undo()
            self.assertEqual(notebook, Notebook(*screens))
            self.check_undoes(notebook, [screens[:number] for number in range(20)])


if __name__ == "__main__":
    unittest.main()
