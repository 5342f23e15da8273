"""Point 28, and points 2, 3 and 10 over consoles."""

import random
import unittest

from tests import helpers, universe
from tests.helpers import S, check_raises
from tests.universe import SCREENS, WORDS, screens_of
from topmatches import errors
from topmatches.answers import sure_answer
from topmatches.console import Console
from topmatches.order import is_before, words_above
from topmatches.places import place_range, sure_beginning
from topmatches.rankings import count_rankings, nth_ranking
from topmatches.reducing import reduced
from topmatches.screens import find_clash, known_words
from topmatches.texts import format_screen

LINES_OF_S = ["see - 2 car dog", "see c 2 car cat", "see do 3 dog dot"]
NUMBERS = ["0", "1", "9", "10", "20", "9" * 30, "1" + "0" * 29]
NOT_NUMBERS = [
    "", "-", "-0", "-1", "+1", "00", "01", "001", "0" * 30, "1.0", "1e1", "1_0", "0x1", "one", "N", "a", "1,", "1\n", "\n1",
    "1\t", "\t1", "\u00b2", "\u0662", "1\u0662", "?", ".", "1" + "0" * 30, "9" * 31, "9" * 4300, "9" * 4301, "1" * 4980,
]
NOT_WORDS = ["", "-", "Car", "c4r", "4", "car,", "car\n", "\ncar", "car\t", "c\u00e4r", "?", ".", "_", "c-r", "--", "'car'"]
NOT_BEGINNINGS = [value for value in NOT_WORDS if value != "-"] + ["-c", "c-", "''"]
# The commands with what must follow them.
FORMS = {
    "see": "PN", "drop": "N", "undo": "", "known": "", "before": "WW", "above": "W", "rankings": "", "ranking": "N",
    "ask": "PN", "place": "PW", "need": "WN", "spare": "",
}
GOOD = {"P": "c", "W": "car", "N": "1"}
WRONG = {"P": NOT_BEGINNINGS, "W": NOT_WORDS, "N": NOT_NUMBERS}


def form_of(beginning):
    return beginning or "-"


def listed(parts):
    return " ".join(str(part) for part in parts) or "."


def filled(lines):
    console = Console()
    for number, line in enumerate(lines):
        assert console.execute(line) == str(number)
    return console


def expected_answer(screens, words):
    """What a line that asks must answer, or the class of the error that it must raise, written a second time."""
    name, *rest = words
    try:
        if name == "known":
            return listed(known_words(screens))
        if name == "before":
            return "yes" if is_before(screens, *rest) else "no"
        if name == "above":
            return listed(words_above(screens, *rest))
        if name == "rankings":
            return str(count_rankings(screens))
        if name == "ranking":
            return listed(nth_ranking(screens, *rest))
        if name == "ask":
            found = sure_answer(screens, *rest)
            return "?" if found is None else listed(found)
        if name == "place":
            least, greatest = place_range(screens, *rest)
            return f"{least} ?" if greatest is None else f"{least} {greatest}"
        if name == "need":
            found = sure_beginning(screens, *rest)
            return "?" if found is None else form_of(found)
        left = reduced(screens)
        return listed([number for number in range(len(screens)) if number not in left])
    except errors.TopMatchesError as error:
        return type(error)


def questions(words, beginnings, limits):
    """Lines that ask, as tuples of their words."""
    found = [("known",), ("rankings",), ("spare",)]
    found += [("ranking", number) for number in [0, 1, 2, 5, 23, 24, 10 ** 29]]
    found += [("before", word, other) for word in words for other in words]
    found += [("above", word) for word in words]
    found += [("ask", beginning, limit) for beginning in beginnings for limit in limits]
    found += [("place", beginning, word) for beginning in beginnings for word in words]
    return found + [("need", word, limit) for word in words for limit in limits]


ASKED = questions(WORDS + ["c"], ["", "a", "ab", "c"], [1, 2, 3, 20])
BAD_LIMITS = questions(["a", "c"], ["", "c"], [0, 21, 10 ** 29])
ASKED_LATER = ASKED[:10] + ASKED[10::7]


def line_of(words):
    """The line with these words: a beginning, which is the second word of some, is written as `-` if it is empty."""
    return " ".join(form_of(str(word)) for word in words)


class Checks(unittest.TestCase):
    def check_asks(self, console, screens, asked):
        for words in asked:
            expected = expected_answer(screens, words)
            with self.subTest(screens=screens, words=words):
                if isinstance(expected, str):
                    found = console.execute(line_of(words))
                    self.assertEqual(found, expected)
                    self.assertIs(type(found), str)
                else:
                    check_raises(self, expected, console.execute, line_of(words))

    def check_ends(self, console, states):
        """Check that undoing leads back through these states, the last one first, and no further."""
        for screens in reversed(states):
            self.assertEqual(console.execute("undo"), "ok")
            self.check_asks(console, screens, ASKED_LATER[:8])
        check_raises(self, errors.NothingToUndo, console.execute, "undo")


class LinesTest(Checks):
    def check(self, console, answers):
        for line, answer in answers.items():
            with self.subTest(line=line):
                self.assertEqual(console.execute(line), answer)
                self.assertEqual(console.execute(line=line), answer)

    def test_lines_that_ask(self):
        self.check(filled(LINES_OF_S), {
            "known": "car cat dog dot", "before dog cat": "yes", "before cat dot": "no", "before car car": "no",
            "above dot": "car dog", "above car": ".", "rankings": "2", "ranking 0": "car dog cat dot",
            "ranking 1": "car dog dot cat", "ask c 2": "car cat", "ask c 3": "?", "ask - 1": "car", "ask - 2": "car dog",
            "ask - 3": "?", "ask dox 5": ".", "ask dot 20": "dot", "place - cat": "2 ?", "place ca cat": "1 1",
            "place - dog": "1 1", "place dot dot": "0 0", "need dot 2": "do", "need dog 2": "-", "need car 1": "-",
            "need cat 1": "cat", "need cat 20": "c", "spare": ".",
        })

    def test_a_console_without_screens(self):
        self.check(Console(), {
            "known": ".", "rankings": "1", "ranking 0": ".", "ask - 1": "?", "ask c 20": "?", "spare": ".",
        })
        self.check_asks(Console(), [], ASKED + BAD_LIMITS)

    def test_no_beginning_is_long_enough(self):
        self.check(filled(["see car 2 cart car"]), {"need car 1": "?", "need cart 1": "car", "need car 2": "car"})

    def test_no_words_shown(self):
        console = filled(["see x 3", "see - 1 dog"])
        self.check(console, {"known": "dog", "ask x 20": ".", "ask xyz 1": "."})
        self.assertEqual(console.execute("drop 0"), "x 3")
        self.check(console, {"ask x 20": "?"})

    def test_screens_that_are_left_out(self):
        self.check(filled(["see ca 1 car", "see c 2 car cat", "see c 2 car cat"]), {"spare": "0 2"})
        self.check(filled(["see c 2 car", "see c 3 car", "see c 4 car", "see d 1"]), {"spare": "1 2"})
        self.check(filled(["see - 1"] * 20), {"spare": " ".join(str(number) for number in range(1, 20))})

    def test_see_drop_and_undo(self):
        console = Console()
        answers = [
            ("see - 2 car dog", "0"), ("see c 2 car cat", "1"), ("drop 0", "- 2 car dog"), ("see x 3", "1"),
            ("known", "car cat"), ("undo", "ok"), ("undo", "ok"), ("known", "car cat dog"), ("drop 1", "c 2 car cat"),
            ("undo", "ok"), ("undo", "ok"), ("known", "car dog"), ("undo", "ok"), ("known", "."), ("see c 1 car", "0"),
            ("drop 0", "c 1 car"), ("undo", "ok"), ("drop 0", "c 1 car"),
        ]
        for line, answer in answers:
            self.assertEqual(console.execute(line), answer)
        self.check_ends(console, [[], [("c", 1, ["car"])]])

    def test_consoles_are_independent(self):
        one, other = Console(), Console()
        one.execute("see - 1 dog")
        self.check(other, {"known": "."})
        self.check_ends(other, [])
        self.check(one, {"known": "dog"})


class WrongLinesTest(Checks):
    def check_no_line(self, console, line):
        with self.subTest(line=line):
            check_raises(self, errors.InvalidCommand, console.execute, line)

    def setUp(self):
        self.consoles = [Console(), filled(LINES_OF_S)]

    def check_unchanged(self):
        self.check_asks(self.consoles[0], [], ASKED_LATER)
        self.check_asks(self.consoles[1], S, ASKED_LATER)
        self.check_ends(self.consoles[0], [])
        self.check_ends(self.consoles[1], [[], S[:1], S[:2]])

    def test_the_form_of_each_word(self):
        for console in self.consoles:
            for name, form in FORMS.items():
                for at, letter in enumerate(form):
                    for value in WRONG[letter]:
                        words = [GOOD[other] for other in form]
                        words[at] = value
                        self.check_no_line(console, " ".join([name, *words]))
                        if name == "see":
                            self.check_no_line(console, " ".join([name, *words, "car", "cat"]))
            for value in NOT_WORDS:
                for rest in [[value], ["car", value], [value, "car"], [value, value]]:
                    self.check_no_line(console, " ".join(["see", "c", "2", *rest]))
        self.check_unchanged()

    def test_too_few_words_and_too_many(self):
        for console in self.consoles:
            for name, form in FORMS.items():
                words = [GOOD[letter] for letter in form]
                for count in range(len(words)):
                    self.check_no_line(console, " ".join([name, *words[:count]]))
                for more in ["", "-", "1", "?", "1 car"] + (["car", "car car", "c 1"] if name != "see" else []):
                    self.check_no_line(console, " ".join([name, *words, more]))
        self.check_unchanged()

    def test_spaces_and_names(self):
        for console in self.consoles:
            for name, form in FORMS.items():
                line = " ".join([name, *[GOOD[letter] for letter in form]])
                for wrong in [
                    " " + line, line + " ", line + "\n", "\n" + line, line + "\t", "\t" + line, line + "\r", line + "  ",
                    name.upper() + line[len(name):], name.title() + line[len(name):], "x" + line, line + "\n" + line,
                    name[:-1] + line[len(name):], name + "s" + line[len(name):], line.replace(name, name + " ", 1),
                    "-" + line, line + ";", line + ".", line + "\x0b", line + "\u2028", line + "\x85",
                ]:
                    self.check_no_line(console, wrong)
                if form:
                    for wrong in ["  ", "\t", "\n", " \t", ",", "\u00a0", "", "_", "\r\n"]:
                        self.check_no_line(console, line.replace(" ", wrong, 1))
                        self.check_no_line(console, wrong.join(line.rsplit(" ", 1)))
            for wrong in ["", " ", "-", "?", "car", "1", "help", "redo", "below car", "count c 1", "execute", " " * 5000, "x" * 5000,
                          "see " * 1250, "undo\nundo", "reduced", "same", "self", "_see", "\n", "PN"]:
                self.check_no_line(console, wrong)
        self.check_unchanged()

    def test_values_that_are_no_strings(self):
        for console in self.consoles:
            for value in helpers.NOT_STRINGS + [b"known", ["known"], ("known",), {"known": 1}]:
                self.check_no_line(console, value)
        self.check_unchanged()

    def test_the_form_is_looked_at_first(self):
        # Each of these would raise another error if its form were right.
        for console in self.consoles:
            for line in [
                "see c 25 car -", "see c 0 Car", "see c 99 car ", "drop 99 1", "ranking 99 99", "before zzz ZZZ", "above zzz ",
                "ask c 25 car", "place c4 zzz", "place x car,", "need zzz 01", "undo 1", "see " + "c " * 3, "drop 99\n",
            ]:
                self.check_no_line(console, line)
        self.check_unchanged()

    def test_errors_of_the_functions_and_methods(self):
        raised = {
            "see c 25 car": errors.InvalidLimit, "see c 0 car": errors.InvalidLimit, "see c 21": errors.InvalidLimit,
            "see - 0": errors.InvalidLimit, "see c " + "9" * 30 + " dog": errors.InvalidLimit,
            "see c 2 dog": errors.InvalidList, "see c 2 car car": errors.InvalidList, "see c 1 car cat": errors.InvalidList,
            "see car 2 ca": errors.InvalidList, "see - 20 " + "a " * 400 + "a": errors.InvalidList,
            "see - 1 dog": errors.ScreensClash, "see d 2 dot": errors.ScreensClash, "see do 1": errors.ScreensClash,
            "see dox 2 dox": errors.ScreensClash, "drop 3": errors.InvalidIndex, "drop " + "9" * 30: errors.InvalidIndex,
            "before cow zzz": errors.UnknownWord, "before car cow": errors.UnknownWord, "before cow car": errors.UnknownWord,
            "above ca": errors.UnknownWord, "ranking 2": errors.InvalidNumber, "ranking " + "9" * 30: errors.InvalidNumber,
            "ask c 0": errors.InvalidLimit, "ask - 21": errors.InvalidLimit, "ask c " + "9" * 30: errors.InvalidLimit,
            "place d cow": errors.UnknownWord, "place d car": errors.NoMatch, "place cat car": errors.NoMatch,
            "need cow 0": errors.UnknownWord, "need car 0": errors.InvalidLimit, "need car 21": errors.InvalidLimit,
        }
        for line, error in raised.items():
            with self.subTest(line=line):
                check_raises(self, error, self.consoles[1].execute, line)
        for line in ["drop 0", "undo", "above car", "before car cat", "place - car", "need car 1", "ranking 1"]:
            error = {"drop": errors.InvalidIndex, "undo": errors.NothingToUndo, "ranking": errors.InvalidNumber}
            expected = error.get(line.split(" ")[0], errors.UnknownWord)
            check_raises(self, expected, self.consoles[0].execute, line)
        self.check_unchanged()

    def test_the_clash(self):
        for line, screen in [("see - 1 dog", ("", 1, ["dog"])), ("see do 1", ("do", 1, []))]:
            error = check_raises(self, errors.ScreensClash, self.consoles[1].execute, line)
            self.assertIn(error.clash, helpers.all_clashes(S + [screen]))
            self.assertIn(3, error.clash[1:3])

    def test_20_screens_and_one_more(self):
        console = filled(["see c 2 car cat"] * 20)
        for line in ["see c 2 car cat", "see c 2", "see - 1 dog"]:
            check_raises(self, errors.NotebookFull, console.execute, line)
        check_raises(self, errors.InvalidList, console.execute, "see c 1 car cat")
        self.check_asks(console, [("c", 2, ["car", "cat"])] * 20, ASKED_LATER)
        self.assertEqual(console.execute("drop 19"), "c 2 car cat")
        self.assertEqual(console.execute("see - 1 car"), "19")

    def test_numbers_of_30_digits_and_of_31(self):
        for console, largest in [(self.consoles[0], 1), (self.consoles[1], 2)]:
            for number in NUMBERS:
                if int(number) < largest:
                    console.execute("ranking " + number)
                else:
                    check_raises(self, errors.InvalidNumber, console.execute, "ranking " + number)
                if int(number) > 2:
                    check_raises(self, errors.InvalidIndex, console.execute, "drop " + number)
            self.check_no_line(console, "ranking 0" + "0" * 29)
        self.check_unchanged()


class AgreesTest(Checks):
    """Each line answers what the functions say."""

    def test_all_lines_that_ask(self):
        for row in universe.agreeing_rows(6, [1, 2, 4]):
            screens = screens_of(row)
            console = filled(["see " + format_screen(screen) for screen in screens])
            self.check_asks(console, screens, ASKED + BAD_LIMITS)

    def test_larger_screens(self):
        for number in range(12):
            screens = universe.larger_screens(number)
            console = filled(["see " + format_screen(screen) for screen in screens])
            words = known_words(screens)
            self.check_asks(console, screens, questions(words, [""] + words[:3], [1, 2, 3]))

    def test_20_words_each(self):
        for screens in [helpers.wide_screens(), helpers.branching_screens()]:
            console = filled(["see " + format_screen(screen) for screen in screens])
            words = known_words(screens)[::90]
            self.check_asks(console, screens, questions(words, ["", "a"], [1, 20]))

    def test_many_lines(self):
        for number in range(40):
            self.run_lines(random.Random(number), 20)

    def run_lines(self, chance, count):
        console = Console()
        states = [[]]
        for _ in range(count):
            now = states[-1]
            kind = chance.choice(["see", "see", "see", "drop", "undo"])
            screen = chance.choice(SCREENS)
            if kind == "see" and find_clash(now + [screen]):
                check_raises(self, errors.ScreensClash, console.execute, "see " + format_screen(screen))
            elif kind == "see":
                self.assertEqual(console.execute("see " + format_screen(screen)), str(len(now)))
                states.append(now + [screen])
            elif kind == "drop" and now:
                index = chance.randrange(len(now))
                self.assertEqual(console.execute(f"drop {index}"), format_screen(now[index]))
                states.append(now[:index] + now[index + 1:])
            elif kind == "undo" and len(states) > 1:
                self.assertEqual(console.execute("undo"), "ok")
                states.pop()
            check_raises(self, errors.InvalidCommand, console.execute, chance.choice(["drop", "see a", "undo ", "see - 1  a"]))
            check_raises(self, errors.InvalidIndex, console.execute, f"drop {len(states[-1])}")
            self.check_asks(console, states[-1], [chance.choice(ASKED) for _ in range(10)])
        self.check_ends(console, states[:-1])


if __name__ == "__main__":
    unittest.main()
