"""What holds over the whole program: of point 10 and point 2, for all modules together."""

import random
import unittest
from itertools import permutations

from tests import helpers, universe
from tests.helpers import CLASHING, MISSING, S
from tests.universe import SCREENS, WORDS, screens_of
from topmatches.answers import can_answer, deciding_screen, dictionary_with, sure_answer, two_dictionaries
from topmatches.console import Console
from topmatches.lists import answer_index, count_answers, nth_answer
from topmatches.notebooks import Notebook
from topmatches.order import children_of, is_before, parent_of, reason_for, words_above, words_below
from topmatches.places import place_range, possible_beginning, sure_beginning
from topmatches.rankings import count_rankings, is_ranking, nth_ranking, ranking_index
from topmatches.reducing import is_implied, reduced, say_same, telling_dictionary
from topmatches.screens import find_clash, is_clash, known_words
from topmatches.texts import format_screen, format_screens, parse_screens
from topmatches.words import fits

BEGINNINGS = ["", "a", "ab", "abz", "b", "c"]
LIMITS = [1, 2, 3]
LISTS = [[], ["a"], ["ab", "a"], ["a", "az"], ["b"], ["c"]]


def beginnings_of(word):
    return [word[:size] for size in range(len(word) + 1)]


def of_words(screens):
    """What is told of the order and the places of the known words."""
    known = known_words(screens)
    found = [known, children_of(screens)]
    for word in known:
        found += [words_above(screens, word), words_below(screens, word)]
        found += [parent_of(screens, word), children_of(screens, word)]
        found += [is_before(screens, word, other) for other in known]
        for beginning in beginnings_of(word):
            found.append(place_range(screens, beginning, word))
            found.append(place_range(screens, beginning, word, only_known=True))
        for limit in LIMITS:
            found += [sure_beginning(screens, word, limit), possible_beginning(screens, word, limit)]
    return found


def of_rankings(screens):
    """What is told of the rankings and of their answers."""
    many = count_rankings(screens)
    rows = [nth_ranking(screens, number) for number in range(min(many, 5))]
    found = [many, rows, [ranking_index(screens, row) for row in rows]]
    found += [is_ranking(screens, row[::-1]) for row in rows]
    for beginning in BEGINNINGS:
        for limit in LIMITS:
            count = count_answers(screens, beginning, limit)
            row = nth_answer(screens, beginning, limit, count - 1)
            found += [count, row, answer_index(screens, beginning, limit, row)]
    return found


def of_answers(screens):
    """What is told of answers, but for numbers of screens and what is not specified."""
    found = []
    for beginning in BEGINNINGS:
        for limit in LIMITS:
            found.append(sure_answer(screens, beginning, limit))
            found.append(deciding_screen(screens, beginning, limit) is None)
            found.append(two_dictionaries(screens, beginning, limit) is None)
            for shown in LISTS:
                if len(shown) <= limit and all(word.startswith(beginning) for word in shown):
                    found.append(can_answer(screens, beginning, limit, shown))
                    found.append(dictionary_with(screens, beginning, limit, shown) is None)
    return found


def of_notebook(screens):
    """What a notebook and a console tell of the screens, but for numbers of screens."""
    notebook = Notebook(*screens)
    console = Console()
    for screen in screens:
        console.execute("see " + format_screen(screen))
    lines = ["known", "rankings", "ranking 0", "ask - 1", "ask a 2", "ask abz 1"]
    for word in notebook.words_now:
        lines += [f"above {word}", f"place - {word}", f"place {word} {word}", f"need {word} 2", f"before {word} {word}"]
    found = [notebook.words_now, notebook.rankings_now, notebook.ask("", 2), notebook.ask("b", 20)]
    return found + [console.execute(line) for line in lines]


def everything(screens):
    return of_words(screens) + of_rankings(screens) + of_answers(screens) + of_notebook(screens)


def lists_of_screens():
    for row in universe.agreeing_rows(3, [1, 2, 3, 5]):
        yield screens_of(row)
    for number in range(0, 40, 4):
        yield universe.larger_screens(number)


class MoreScreensTest(unittest.TestCase):
    def check(self, fewer, more):
        """Check that what is sure with some screens is sure with more of them behind these."""
        known = known_words(fewer)
        self.assertLessEqual(set(known), set(known_words(more)))
        for word in known:
            self.assertLessEqual(set(words_above(fewer, word)), set(words_above(more, word)))
            self.assertLessEqual(set(words_below(fewer, word)), set(words_below(more, word)))
            for other in known:
                if is_before(fewer, word, other):
                    self.assertIs(is_before(more, word, other), True)
                    self.assertEqual(reason_for(more, word, other), reason_for(fewer, word, other))
            self.check_places(fewer, more, word)
        self.check_answers(fewer, more)
        for number in range(len(fewer)):
            if is_implied(fewer, number):
                self.assertIs(is_implied(more, number), True)

    def check_places(self, fewer, more, word):
        for beginning in beginnings_of(word):
            least, greatest = place_range(fewer, beginning, word)
            found = place_range(more, beginning, word)
            self.assertGreaterEqual(found[0], least)
            if greatest is not None:
                self.assertEqual(found, (least, greatest))
        for limit in LIMITS:
            sure = sure_beginning(fewer, word, limit)
            if sure is not None:
                self.assertLessEqual(len(sure_beginning(more, word, limit)), len(sure))
            possible = possible_beginning(more, word, limit)
            if possible is not None:
                self.assertLessEqual(len(possible_beginning(fewer, word, limit)), len(possible))

    def check_answers(self, fewer, more):
        notebook = Notebook(*more)
        for beginning in BEGINNINGS:
            for limit in LIMITS:
                sure = sure_answer(fewer, beginning, limit)
                if sure is not None:
                    self.assertEqual(sure_answer(more, beginning, limit), sure)
                    self.assertEqual(notebook.ask(beginning, limit), sure)
                    number = deciding_screen(fewer, beginning, limit)
                    self.assertEqual(deciding_screen(more, beginning, limit), number)
                    self.assertIsNone(two_dictionaries(more, beginning, limit))
                for shown in LISTS:
                    if len(shown) <= limit and all(word.startswith(beginning) for word in shown):
                        if can_answer(more, beginning, limit, shown):
                            self.assertIs(can_answer(fewer, beginning, limit, shown), True)

    def test_one_after_the_other(self):
        for screens in lists_of_screens():
            for number in range(len(screens)):
                self.check(screens[:number], screens[:number + 1])
                self.check(screens[:number], screens)

    def test_dictionaries_that_fit_more_screens_fit_fewer(self):
        for screens in lists_of_screens():
            row = nth_ranking(screens, 0)
            for number in range(len(screens)):
                self.assertIs(fits(row, screens[:number]), True)
            found = telling_dictionary(screens, [])
            self.assertIs(found is None, say_same(screens, []))
            self.assertTrue(found is None or not fits(found, screens))

    def test_a_clash_stays_a_clash(self):
        for screens in [CLASHING, MISSING]:
            clash = find_clash(screens)
            for more in [S, CLASHING, MISSING, SCREENS[:18]]:
                self.assertIs(is_clash(screens + more, clash), True)
                self.assertIsNotNone(find_clash(screens + more))
                self.assertIsNotNone(find_clash(more + screens))


class SequenceTest(unittest.TestCase):
    def check(self, screens, order):
        """Check that the screens in this order of their numbers tell the same."""
        other = [screens[number] for number in order]
        self.assertEqual(everything(other), everything(screens))
        self.assertIs(say_same(screens, other), True)
        self.assertIsNone(telling_dictionary(screens, other))
        implied = [is_implied(screens, number) for number in order]
        self.assertEqual([is_implied(other, at) for at in range(len(other))], implied)
        rest, other_rest = reduced(screens), reduced(other)
        self.assertEqual(len(rest), len(other_rest))
        self.assertIs(say_same([screens[at] for at in rest], [other[at] for at in other_rest]), True)
        lines = format_screens(screens).split("\n")
        self.assertEqual(parse_screens("\n".join(lines[number] for number in order)), other)

    def test_all_orders_of_a_few_screens(self):
        for row in universe.agreeing_rows(12, [2, 3]):
            for order in list(permutations(range(len(row))))[1:]:
                self.check(screens_of(row), order)

    def test_some_orders_of_more_screens(self):
        for number, screens in enumerate(lists_of_screens()):
            order = list(range(len(screens)))
            random.Random(number).shuffle(order)
            self.check(screens, order)

    def test_clashes(self):
        for row in universe.some_rows(3, 400):
            screens = screens_of(row)
            results = {find_clash(list(other)) is None for other in permutations(screens)}
            self.assertEqual(len(results), 1)


class SameSaidTest(unittest.TestCase):
    def check(self, one, other):
        self.assertIs(say_same(one, other), True)
        self.assertEqual(everything(one), everything(other))

    def test_reduced_screens(self):
        shorter = 0
        for screens in lists_of_screens():
            rest = [screens[number] for number in reduced(screens)]
            self.check(screens, rest)
            shorter += len(rest) < len(screens)
        self.assertGreater(shorter, 10)

    def test_screens_that_others_decide(self):
        for screens in lists_of_screens():
            more = [
                (beginning, limit, sure_answer(screens, beginning, limit))
                for beginning in BEGINNINGS for limit in LIMITS
                if sure_answer(screens, beginning, limit) is not None
            ]
            if len(screens) + len(more) <= 20:
                self.check(screens, more + screens)

    def test_lists_that_do_not_say_the_same(self):
        # The dictionary that tells two lists apart is shown by all lists that say the same as one of them.
        for screens in lists_of_screens():
            rest = [screens[number] for number in reduced(screens)]
            for number in range(len(rest)):
                fewer = rest[:number] + rest[number + 1:]
                self.assertIs(say_same(screens, fewer), False)
                found = telling_dictionary(screens, fewer)
                self.assertEqual([fits(found, row) for row in [screens, rest, fewer]], [False, False, True])


class NotebooksTest(unittest.TestCase):
    def test_a_notebook_and_a_console_take_exactly_what_has_no_clash(self):
        for row in universe.some_rows(3, 600):
            notebook, console, taken = Notebook(), Console(), []
            for screen in screens_of(row):
                if helpers.all_clashes(taken + [screen]):
                    self.assertRaises(ValueError, notebook.add, *screen)
                    self.assertRaises(ValueError, console.execute, "see " + format_screen(screen))
                else:
                    self.assertEqual(str(notebook.add(*screen)), console.execute("see " + format_screen(screen)))
                    taken.append(screen)
            self.assertEqual(notebook, Notebook(*taken))
            self.assertEqual(console.execute("known"), " ".join(notebook.words_now) or ".")
            self.assertEqual(console.execute("rankings"), str(notebook.rankings_now))

    def test_each_answer_of_a_notebook_is_one_of_the_dictionaries_that_fit(self):
        for row in universe.agreeing_rows(5, [2, 4]):
            notebook = Notebook(*screens_of(row))
            dictionary = nth_ranking(notebook.screens_now, notebook.rankings_now - 1)
            for beginning in BEGINNINGS + WORDS:
                for limit in LIMITS:
                    found = notebook.ask(beginning, limit)
                    if found is not None:
                        self.assertEqual(found, helpers.answer(dictionary, beginning, limit))


if __name__ == "__main__":
    unittest.main()
