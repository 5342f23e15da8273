"""The examples of the document, word for word, each with names of its own."""

import doctest
import os
import re
import unittest

from topmatches import errors

EXAMPLES = os.path.join(os.path.dirname(__file__), "examples.txt")
NAMES = [
    "is_word", "is_beginning", "answer_of", "fits",
    "is_screen", "are_screens", "known_words", "find_clash", "is_clash",
    "is_before", "reason_for", "words_above", "words_below", "parent_of", "children_of",
    "count_rankings", "is_ranking", "nth_ranking", "ranking_index",
    "can_answer", "dictionary_with", "sure_answer", "deciding_screen", "two_dictionaries",
    "place_range", "sure_beginning", "possible_beginning",
    "count_answers", "nth_answer", "answer_index",
    "is_implied", "reduced", "say_same", "telling_dictionary",
    "Notebook", "format_screens", "parse_screens", "Console", "execute",
]
# How the document writes that a call raises an error.
RAISES = re.compile(r"raises (\w+)\((\w+)=(\d+)\)\n")


def blocks():
    with open(EXAMPLES, encoding="ascii") as file:
        return file.read().split("\n\n")


class ExamplesTest(unittest.TestCase):
    def test_every_function_has_an_example(self):
        text = "\n".join(blocks())
        for name in NAMES:
            self.assertIn(name + "(", text)

    def test_examples(self):
        parser = doctest.DocTestParser()
        raising = 0
        for number, block in enumerate(blocks()):
            with self.subTest(block=block):
                example = parser.get_doctest(block, {}, f"example {number}", EXAMPLES, 0)
                self.assertGreater(len(example.examples), 1)
                raises = RAISES.fullmatch(example.examples[-1].want)
                if raises:
                    raising += 1
                    self.check_error(example, *raises.groups())
                else:
                    self.check_results(example)
        self.assertEqual(raising, 1)

    def check_results(self, example):
        said = []
        runner = doctest.DocTestRunner(verbose=False, optionflags=doctest.DONT_ACCEPT_TRUE_FOR_1)
        result = runner.run(example, out=said.append)
        self.assertEqual(result.failed, 0, "".join(said))

    def check_error(self, example, name, attribute, value):
        names = {}
        *first, last = [part.source for part in example.examples]
        exec("".join(first), names)
        with self.assertRaises(errors.TopMatchesError) as caught:
            eval(last, names)
        self.assertIs(type(caught.exception), getattr(errors, name))
        self.assertEqual(getattr(caught.exception, attribute), int(value))


if __name__ == "__main__":
    unittest.main()
