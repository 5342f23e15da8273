"""Point 10: what the modules screens and order tell, against all sequences of a few words."""

import unittest
from itertools import product

from tests import helpers
from tests.universe import SCREENS, SMALL, WORDS, some_rows
from topmatches.order import children_of, is_before, parent_of, reason_for, words_above, words_below
from topmatches.screens import find_clash, is_clash, known_words
from topmatches.words import fits


def stands_before(dictionary, word, other):
    return word in dictionary and other in dictionary and dictionary.index(word) < dictionary.index(other)


BEFORE = {
    (word, other): SMALL.mask_of(lambda dictionary, word=word, other=other: stands_before(dictionary, word, other))
    for word in WORDS for other in WORDS
}


class ClashTest(unittest.TestCase):
    def check(self, row):
        screens = [SCREENS[number] for number in row]
        found = find_clash(screens)
        if SMALL.fitting(row):
            self.assertIsNone(found, screens)
        else:
            self.assertIs(is_clash(screens, found), True)
            self.assertIn(found, helpers.all_clashes(screens))

    def test_one_screen(self):
        self.check([])
        for number in range(len(SCREENS)):
            self.check([number])

    def test_all_pairs_of_screens(self):
        for row in product(range(len(SCREENS)), repeat=2):
            self.check(row)

    def test_some_larger_lists(self):
        for size in [3, 4, 6]:
            for row in some_rows(size, 1500):
                self.check(row)

    def test_three_screens_that_agree_in_pairs(self):
        # Without a clash of two screens there is none of three: the order never goes round in a circle.
        agreeing = [
            [other for other, mask in enumerate(SMALL.shown_by) if mask & SMALL.shown_by[number]]
            for number in range(len(SCREENS))
        ]
        for one in range(0, len(SCREENS), 4):
            for other in agreeing[one]:
                for third in agreeing[one]:
                    if third in agreeing[other]:
                        self.assertTrue(SMALL.fitting([one, other, third]))

    def test_is_clash_is_exactly_the_definition(self):
        values = [("missing", i, k, word) for i in range(3) for k in range(3) for word in WORDS + ["c"]]
        values += [("order", i, k, *pair) for i in range(3) for k in range(3) for pair in product(WORDS, repeat=2)]
        for row in some_rows(2, 400):
            screens = [SCREENS[number] for number in row]
            clashes = helpers.all_clashes(screens)
            for value in values:
                self.assertIs(is_clash(screens, value), value in clashes)

    def test_fits(self):
        for row in some_rows(2, 400):
            screens = [SCREENS[number] for number in row]
            mask = SMALL.mask_of(lambda dictionary, screens=screens: fits(dictionary, screens))
            self.assertEqual(mask, SMALL.fitting(row))


class OrderTest(unittest.TestCase):
    def check(self, row):
        mask = SMALL.fitting(row)
        if not mask:
            return
        screens = [SCREENS[number] for number in row]
        known = sorted({word for screen in screens for word in screen[2]})
        self.assertEqual(known_words(screens), known)
        pairs = {pair for pair in product(known, repeat=2) if not mask & ~BEFORE[pair]}
        for word, other in product(known, repeat=2):
            reasons = [number for number, screen in enumerate(screens) if helpers.puts(screen, word, other)]
            self.assertIs(is_before(screens, word, other), (word, other) in pairs)
            self.assertEqual(bool(reasons), (word, other) in pairs)
            self.assertEqual(reason_for(screens, word, other), reasons[0] if reasons else None)
        self.check_rows(screens, known, pairs)

    def check_rows(self, screens, known, pairs):
        parents = {}
        for word in known:
            above = words_above(screens, word)
            self.assertEqual(sorted(above), [other for other in known if (other, word) in pairs])
            for at, other in enumerate(above):
                for later in above[at + 1:]:
                    self.assertIn((other, later), pairs)
            self.assertEqual(words_below(screens, word), [other for other in known if (word, other) in pairs])
            parents[word] = above[-1] if above else None
            self.assertEqual(parent_of(screens, word), parents[word])
        for word in known + [None]:
            self.assertEqual(children_of(screens, word), [other for other in known if parents[other] == word])

    def test_one_screen(self):
        self.check([])
        for number in range(len(SCREENS)):
            self.check([number])

    def test_pairs_of_screens(self):
        for number, row in enumerate(product(range(len(SCREENS)), repeat=2)):
            if number % 3 == 0:
                self.check(row)

    def test_some_larger_lists(self):
        # A list of screens that one dictionary shows is never without a dictionary, however long it is.
        for number, dictionary in enumerate(SMALL.dictionaries):
            shown = [at for at, screen in enumerate(SCREENS) if helpers.shows(dictionary, screen)]
            for step in range(1, 5):
                self.check(shown[number % step::step])
                self.check(shown[::-step])
        for row in some_rows(3, 1500):
            self.check(row)


if __name__ == "__main__":
    unittest.main()
