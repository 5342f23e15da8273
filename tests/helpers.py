"""What several tests need: wrong values, screens of the document, and definitions written a second time."""

from itertools import permutations

S = [("", 2, ["car", "dog"]), ("c", 2, ["car", "cat"]), ("do", 3, ["dog", "dot"])]
CLASHING = [("", 1, ["dog"]), ("", 2, ["car", "dog"])]
MISSING = [("x", 2, []), ("", 1, ["xa"])]
BIG = 10 ** 999


class AlwaysEqual:
    """A value that says of itself that it equals any other."""

    def __eq__(self, other):
        return True

    def __hash__(self):
        return 0


def nested(depth):
    value = []
    for _ in range(depth):
        value = [value]
    return value


NOT_STRINGS = [
    None, True, False, 0, 1, -1, BIG, b"", b"car", (), [], {}, set(), ["car"], ("car",), {"car": 1}, {"car"},
    object(), AlwaysEqual(), len, ValueError, nested(39),
]
ODD_STRINGS = [
    "Car", "CAR", "caR", "car ", " car", "car\n", "\ncar", "car\t", "c r", "c4r", "4", "ca-r", "-", "_", "{", "`",
    "c\u00e4r", "\u00df", "\u0430", "\uff41", "caf\u00e9", "car,dog", "x" * 29 + "X", " ", "\n",
]
NOT_BEGINNINGS = NOT_STRINGS + ODD_STRINGS
NOT_WORDS = NOT_BEGINNINGS + [""]
NOT_LIMITS = [
    None, True, False, 0, -1, -20, 21, 22, BIG, -BIG, "", "1", "20", b"1", [], [1], (), (1,), {1}, {1: 1},
    object(), AlwaysEqual(), int, nested(39),
]
NOT_DICTIONARIES = [
    None, True, False, 0, 1, BIG, "", "car", b"car", (), ("car",), {}, {"car": 1}, set(), {"car"}, {"car": 1}.keys(),
    object(), AlwaysEqual(), list, nested(39), range(0),
] + [[value] for value in NOT_WORDS] + [["car", value] for value in NOT_WORDS] + [
    ["car", "car"], ["car", "dog", "car"], ["cat", "car", "dog", "dog"], [["car"], ["dog"]], ["car", "dog", None],
]
NOT_SCREENS = [
    None, True, 0, BIG, "", "c", b"c", [], {}, set(), object(), AlwaysEqual(), tuple, nested(39),
    (), ("",), ("", 1), ("", 1, [], []), ("c", 2, ["car"], None), ["c", 2, ["car"]], [("c", 2, ["car"])],
    (("c", 2, ["car"]),), (2, "c", ["car"]), ("c", ["car"], 2), {"c": 1, "d": 2, "e": 3}, "abc",
] + [(value, 2, []) for value in NOT_BEGINNINGS] + [("", value, []) for value in NOT_LIMITS] + [
    ("", 20, value) for value in NOT_DICTIONARIES
] + [
    ("c", 2, ["dog"]), ("c", 2, ["car", "dog"]), ("car", 2, ["ca"]), ("ca", 2, ["car", "ac"]), ("a", 1, ["ba"]),
    ("", 1, ["car", "dog"]), ("c", 1, ["car", "cat"]), ("", 2, ["a", "b", "c"]),
    ("", 20, ["a" * size for size in range(1, 22)]),
]
NOT_SCREEN_LISTS = [
    None, True, 0, BIG, "", "c", b"c", (), {}, set(), object(), AlwaysEqual(), list, nested(39),
    ("c", 2, ["car"]), (("c", 2, ["car"]),), {("c", 2): 1}, [("", 1, [])] * 21, [("c", 2, ["car"])] * 22,
    tuple(S), {0: S[0]}, ["c", 2, ["car"]], [S], range(0),
] + [[value] for value in NOT_SCREENS] + [S + [value] for value in NOT_SCREENS]


def answer(dictionary, beginning, limit):
    """The answer as point 4 defines it."""
    found = []
    for word in dictionary:
        if word[:len(beginning)] == beginning and len(found) < limit:
            found.append(word)
    return found


def shows(dictionary, screen):
    beginning, limit, shown = screen
    return answer(dictionary, beginning, limit) == shown


def is_dictionary(value):
    return (
        type(value) is list and all(type(word) is str and word.isalpha() and word.islower() for word in value)
        and len(set(value)) == len(value)
    )


def sequences(words):
    """All lists of different ones of the words."""
    return [list(row) for size in range(len(words) + 1) for row in permutations(words, size)]


def all_screens(words, beginnings, limits):
    """All screens that show some of the words."""
    found = []
    for beginning in beginnings:
        matching = [word for word in words if word[:len(beginning)] == beginning]
        for limit in limits:
            found.extend((beginning, limit, shown) for shown in sequences(matching) if len(shown) <= limit)
    return found


def puts(screen, x, y):
    """Whether the screen puts x before y, as point 6 defines it."""
    beginning, _, shown = screen
    size = len(beginning)
    if x == y or x[:size] != beginning or y[:size] != beginning:
        return False
    later = shown[shown.index(x) + 1:] if x in shown else []
    return x in shown and (y in later or y not in shown)


def all_clashes(screens):
    """All clashes, as point 6 defines them."""
    known = {word for screen in screens for word in screen[2]}
    found = set()
    for i, (beginning, limit, shown) in enumerate(screens):
        for k, other in enumerate(screens):
            for x in known:
                if len(shown) < limit and x[:len(beginning)] == beginning and x not in shown and x in other[2]:
                    found.add(("missing", i, k, x))
                for y in known:
                    if puts(screens[i], x, y) and puts(other, y, x):
                        found.add(("order", i, k, x, y))
    return found


def wide_screens():
    """20 screens of 20 words of 30 letters each: 400 known words, none above one of another screen."""
    letters = "abcdefghijklmnopqrst"
    return [(one, 20, [one + other * 29 for other in letters]) for one in letters]


def deep_screens():
    """20 screens of 20 words each: 400 known words in one row, the highest first; the longest have 30 letters."""
    letters = "bcdefghijklmnopqrstu"
    return [("a" * size, 20, ["a" * size + one * (30 - size) for one in letters]) for size in range(20)]


def branching_screens():
    """20 screens of 20 words each: 20 words in one row, and below the last one 19 rows of 19 words each."""
    letters = "abcdefghijklmnopqrst"
    found = [("", 20, [one + "z" for one in letters])]
    return found + [(one, 20, [one + "z"] + [one + other * 29 for other in letters[1:]]) for one in letters[1:]]


NOT_NUMBERS = [
    None, True, False, -1, -2, BIG, -BIG, 10 ** 1000 - 1, "", "0", "1", b"0", b"", [], [0], (), (0,), {}, {0}, {0: 0},
    object(), AlwaysEqual(), int, nested(39), range(1),
]


def check_raises(test, error, function, *arguments, **named):
    """Check that the call raises an error of exactly this class, and return that error."""
    with test.assertRaises(error) as caught:
        function(*arguments, **named)
    test.assertIs(type(caught.exception), error)
    return caught.exception
