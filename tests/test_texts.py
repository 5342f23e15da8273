"""Point 27."""

import unittest

from tests import helpers
from tests.helpers import CLASHING, MISSING, S, check_raises
from tests.universe import SCREENS
from topmatches import errors
from topmatches.screens import is_screen
from topmatches.texts import format_screen, format_screens, parse_screen, parse_screens

LETTERS = "abcdefghijklmnopqrst"
# Screens and their texts.
TEXTS = [
    (("", 2, ["car", "dog"]), "- 2 car dog"), (("x", 3, []), "x 3"), (("", 1, []), "- 1"), (("", 20, []), "- 20"),
    (("do", 10, ["do", "dog"]), "do 10 do dog"), (("z" * 30, 20, ["z" * 30]), "z" * 30 + " 20 " + "z" * 30),
    (("", 20, list(LETTERS)), "- 20 a b c d e f g h i j k l m n o p q r s t"), (("a", 9, ["a"]), "a 9 a"),
]
NOT_NUMBERS = [
    "", "0", "00", "01", "02", "001", "020", "21", "22", "99", "100", "-1", "+1", "+2", "1.0", "1e1", "1_0", "0x1",
    "one", "a", "-", "2,", "2\t", "\t2", "\u00b2", "\u0662", "1\u0662", "1" * 30, "1" * 31, "9" * 4299,
    "9" * 4301, "1" + "0" * 4995, "0" * 4990 + "2", "2" * 4990,
]
# Texts that are no texts of a screen; those with a newline are left to texts of screens, too.
NOT_TEXTS = [
    "", " ", "  ", "-", "x", "2", "- ", "x ", " 2", "2 -", "2 x", "x2", "-2", "x-2", "x,2", "car", "car dog", "x x", "- -",
    "- 2 ", " - 2", "-  2", "- 2  car", "- 2 car ", " - 2 car", "-  2 car", "- 2 car  dog", "- 2 car dog ", "- 2 car  ",
    "-\t2 car", "- 2\tcar", "- 2 car\tdog", "- 2 car\t", "\t- 2", "-\t2", "- 2\t", "- 2 \tcar", "- 2 car\r",
    "- 2 -", "- 2 car -", "- 2 - car", "c 2 -", "-- 2", "c- 2 car", "-c 2 car", "c 2 -car", "_ 2 car", "\"\" 2 car",
    "C 2 car", "c 2 Car", "CAR 2", "c 2 c4r", "c4 2", "4 2", "c 2 4", "c 2 car, cat", "c 2 ['car']", "c 2 \"car\"",
    "c 2 dog", "c 2 car dog", "ca 2 c", "car 2 cat", "x 3 ax", "c 1 car cat", "- 2 a b c", "- 1 a b", "- 19 " + " ".join(LETTERS),
    "- 2 car car", "- 3 car dog car", "- 20 " + " ".join(LETTERS + "u"), "c\u00e4 2", "c 2 c\u00e4r", "\u0430 2", "c 2\u00a0car",
    "c\u20032 car", "c 2 car\u2028", "c 2 car\x0b", "c 2 car\x0c", "c 2 car\x1c", "c 2 car\x85", "\ufeffc 2 car",
    "c 2 car #", "# c 2 car", "c 2 car;", "('c', 2, ['car'])", "x" * 5000, "1" * 5000, " " * 5000, "- 2 " + "x " * 2498,
] + ["c " + text for text in NOT_NUMBERS] + ["c " + text + " car" for text in NOT_NUMBERS]


class FormatTest(unittest.TestCase):
    def test_screens(self):
        for screen, text in TEXTS:
            self.assertEqual(format_screen(screen), text)
            self.assertEqual(format_screen(screen=screen), text)
            self.assertEqual(format_screens([screen]), text)

    def test_lists_of_screens(self):
        self.assertEqual(format_screens([]), "")
        self.assertEqual(format_screens(S), "- 2 car dog\nc 2 car cat\ndo 3 dog dot")
        self.assertEqual(format_screens(screens=S[::-1]), "do 3 dog dot\nc 2 car cat\n- 2 car dog")
        self.assertEqual(format_screens([("", 1, [])] * 20), "\n".join(["- 1"] * 20))

    def test_clashes_do_not_matter(self):
        self.assertEqual(format_screens(CLASHING), "- 1 dog\n- 2 car dog")
        self.assertEqual(format_screens(MISSING), "x 2\n- 1 xa")
        self.assertEqual(parse_screens("- 1 dog\n- 2 car dog"), CLASHING)

    def test_other_values(self):
        for value in helpers.NOT_SCREENS + [S, CLASHING, "- 2 car dog"]:
            with self.subTest(value=value):
                check_raises(self, errors.InvalidScreen, format_screen, value)
        for value in helpers.NOT_SCREEN_LISTS + [S[0], "- 2 car dog", ["- 2 car dog"]]:
            with self.subTest(value=value):
                check_raises(self, errors.InvalidScreens, format_screens, value)


class ParseTest(unittest.TestCase):
    def check_line(self, line, function, text):
        self.assertEqual(check_raises(self, errors.InvalidText, function, text).line, line)

    def test_screens(self):
        for screen, text in TEXTS:
            found = parse_screen(text)
            self.assertEqual(found, screen)
            self.assertEqual([type(part) for part in [found, *found]], [tuple, str, int, list])
            self.assertEqual(parse_screen(text=text), screen)
            self.assertEqual(parse_screens(text), [screen])
            self.assertEqual(parse_screens(text=text + "\n" + text), [screen, screen])

    def test_all_limits(self):
        for limit in range(1, 21):
            self.assertEqual(parse_screen(f"c {limit} car"), ("c", limit, ["car"]))
            self.assertEqual(format_screen(("c", limit, ["car"])), f"c {limit} car")
            self.check_line(0, parse_screen, f"c 0{limit} car")
            self.check_line(0, parse_screen, f"c {limit + 20} car")

    def test_no_screens(self):
        self.assertEqual(parse_screens(""), [])
        self.check_line(0, parse_screen, "")

    def test_other_texts(self):
        for text in NOT_TEXTS:
            with self.subTest(text=text):
                self.check_line(0, parse_screen, text)
                self.check_line(1, parse_screens, "x 3\n" + text)
                self.check_line(0, parse_screens, text + "\nx 3")
                self.check_line(2, parse_screens, "- 2 car dog\nx 3\n" + text + "\nx\n")
                if text:
                    self.check_line(0, parse_screens, text)

    def test_a_newline_ends_no_line_but_begins_one(self):
        for _, text in TEXTS:
            self.check_line(0, parse_screen, text + "\n")
            self.check_line(0, parse_screen, "\n" + text)
            self.check_line(0, parse_screen, text + "\n" + text)
            self.check_line(1, parse_screens, text + "\n")
            self.check_line(0, parse_screens, "\n" + text)
            self.check_line(1, parse_screens, text + "\n\n" + text)
            self.check_line(0, parse_screens, text + "\r\n" + text)
        self.check_line(0, parse_screens, "\n")
        self.check_line(0, parse_screens, "\n\n")
        self.check_line(0, parse_screen, "\n")
        self.check_line(0, parse_screens, "c 2 car\rc 2 cat")
        self.check_line(0, parse_screens, "\n" * 5000)

    def test_20_lines_and_one_more(self):
        lines = ["c 2 car"] * 20
        self.assertEqual(parse_screens("\n".join(lines)), [("c", 2, ["car"])] * 20)
        for more in ["c 2 car", "", "x", "c 2 car\nc 2 car", "\n\n", "c 2 car\n" * 600]:
            self.check_line(20, parse_screens, "\n".join(lines + [more]))
            for number in [0, 7, 19]:
                wrong = lines[:number] + ["c 21 car"] + lines[number + 1:]
                self.check_line(number, parse_screens, "\n".join(wrong + [more]))
                self.check_line(number, parse_screens, "\n".join(wrong))

    def test_the_first_line_that_is_wrong(self):
        for number in range(19):
            lines = ["x 3"] * number + ["x"] + ["x 3", ""] * 9
            self.check_line(number, parse_screens, "\n".join(lines))

    def test_values_that_are_no_strings(self):
        for value in helpers.NOT_STRINGS + [S, S[0], [text for _, text in TEXTS], b"x 3"]:
            with self.subTest(value=value):
                self.check_line(None, parse_screen, value)
                self.check_line(None, parse_screens, value)

    def test_the_lists_are_new(self):
        found = parse_screens("- 2 car dog\n- 2 car dog")
        found[0][2].clear()
        self.assertEqual(found, [("", 2, []), ("", 2, ["car", "dog"])])
        self.assertEqual(parse_screens("- 2 car dog"), [("", 2, ["car", "dog"])])


class BackAndForthTest(unittest.TestCase):
    def test_each_screen(self):
        screens = SCREENS + [screen for screen, _ in TEXTS] + helpers.wide_screens() + helpers.deep_screens()
        for screen in screens:
            self.assertEqual(parse_screen(format_screen(screen)), screen)
        texts = [format_screen(screen) for screen in screens]
        self.assertEqual(len(set(texts)), len({repr(screen) for screen in screens}))

    def test_lists_of_screens(self):
        for size in range(21):
            for start in range(0, len(SCREENS) - 20, 9):
                screens = SCREENS[start:start + size]
                self.assertEqual(parse_screens(format_screens(screens)), screens)
        for screens in [helpers.wide_screens(), helpers.deep_screens(), helpers.branching_screens()]:
            self.assertEqual(parse_screens(format_screens(screens)), screens)

    def test_each_short_text(self):
        """All texts of up to six signs of a few kinds: read as a screen, they are its text; else they are none."""
        texts = [""]
        told = {True: 0, False: 0}
        for _ in range(6):
            texts = [text + sign for text in texts for sign in "-a 1"]
            for text in texts:
                try:
                    screen = parse_screen(text)
                except errors.InvalidText:
                    screen = None
                parts = text.split(" ")
                known = len(parts) > 1 and (parts[0], parts[1]) in [
                    (beginning, limit) for beginning in ["-", "a", "aa", "aaa", "aaaa"] for limit in ["1", "11"]
                ]
                beginning = "" if parts[0] == "-" else parts[0]
                expected = known and is_screen((beginning, int(parts[1]), parts[2:]))
                self.assertIs(screen is not None, expected, text)
                if screen is not None:
                    self.assertEqual(format_screen(screen), text)
                told[expected] += 1
        self.assertGreater(told[True], 10)


if __name__ == "__main__":
    unittest.main()
