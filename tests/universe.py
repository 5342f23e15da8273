"""All dictionaries of a few words, and all screens of them: what the program tells is compared with these."""

import random
from itertools import permutations

from tests import helpers

WORDS = ["a", "ab", "abc", "b"]
SCREENS = helpers.all_screens(WORDS, ["", "a", "ab", "b", "c"], [1, 2, 3])


class Universe:
    """Dictionaries, and which ones show which of the screens; sets of them are kept as the bits of a number."""

    def __init__(self, dictionaries):
        self.dictionaries = dictionaries
        self.all = (1 << len(dictionaries)) - 1
        self.shown_by = [
            self.mask_of(lambda dictionary, one=one: helpers.shows(dictionary, one)) for one in SCREENS
        ]

    def mask_of(self, test):
        """The dictionaries for which the test holds."""
        return sum(1 << number for number, dictionary in enumerate(self.dictionaries) if test(dictionary))

    def fitting(self, row):
        """The dictionaries that show all screens with the numbers of the row."""
        mask = self.all
        for number in row:
            mask &= self.shown_by[number]
        return mask

    def results(self, function):
        """What the function returns for some dictionary, as keys, with the dictionaries for which it returns that."""
        found = {}
        for number, dictionary in enumerate(self.dictionaries):
            result = function(dictionary)
            found[result] = found.get(result, 0) | 1 << number
        return found


SMALL = Universe(helpers.sequences(WORDS))


def some_rows(size, count):
    """`count` rows of `size` numbers of screens, spread over all such rows, the same in each run."""
    total = len(SCREENS) ** size
    for number in range(count):
        rest = number * (total // count) + number * number * 7919
        row = []
        for _ in range(size):
            row.append(rest % len(SCREENS))
            rest //= len(SCREENS)
        yield row


def rows_without_clash(step, count):
    """Rows of numbers of screens that some dictionary shows: none, one screen, some pairs, and longer ones."""
    yield []
    for number in range(0, len(SCREENS), step):
        yield [number]
    for size in [2, 3, 4]:
        for row in some_rows(size, count):
            if SMALL.fitting(row):
                yield row
    for number, dictionary in enumerate(SMALL.dictionaries[::step]):
        shown = [at for at, screen in enumerate(SCREENS) if helpers.shows(dictionary, screen)]
        for size in [2, 3, 5]:
            every = len(shown) // size
            yield shown[number % every::every]
            yield shown[::-every]


def screens_of(row):
    return [SCREENS[number] for number in row]


def known_of(screens):
    return sorted({word for screen in screens for word in screen[2]})


def all_rankings(screens):
    """All rankings, ascending: the sequences of all known words that show all screens."""
    rows = permutations(known_of(screens))
    return [list(row) for row in rows if all(helpers.shows(row, screen) for screen in screens)]


def larger_screens(number):
    """Screens that one dictionary of six or seven words shows, of several depths, the same in each run."""
    chance = random.Random(number)
    words = set()
    while len(words) < 6 + number % 2:
        words.add("".join(chance.choice("ab") for _ in range(chance.randint(1, 4))))
    dictionary = sorted(words)
    chance.shuffle(dictionary)
    found = []
    for _ in range(chance.randint(4, 9)):
        beginning = chance.choice(dictionary)[:chance.choice([0, 1, 1, 2, 3, 4])]
        limit = chance.choice([1, 1, 2, 3])
        found.append((beginning, limit, helpers.answer(dictionary, beginning, limit)))
    return found


def with_new_words():
    """For each beginning of the screens, all dictionaries of the words and of one that begins so and is never shown.

    Other dictionaries show no more: what tells two lists of screens apart stands already in these.
    """
    return [Universe(helpers.sequences(WORDS + [beginning + "z"])) for beginning in ["", "a", "ab", "b", "c"]]


def agreeing_rows(step, sizes):
    """Rows of numbers of screens that one dictionary shows, of these sizes, for every `step`-th dictionary."""
    for number, dictionary in enumerate(SMALL.dictionaries[::step]):
        shown = [at for at, screen in enumerate(SCREENS) if helpers.shows(dictionary, screen)]
        chance = random.Random(number)
        for size in sizes:
            yield chance.choices(shown, k=size)
