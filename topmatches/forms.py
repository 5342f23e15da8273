"""The forms in which beginnings, words and numbers stand in the text of a screen and in a line of a console.

The words of a text are separated by single spaces. A text with two spaces together, or with one at an end, has an
empty part if it is split at each space, and no form takes an empty part.
"""

from topmatches.kinds import valid_word

NO_LETTERS = "-"
# Python turns no string of several thousand digits into a number.
MOST_DIGITS = 30


def beginning_form(beginning):
    """Return the form of the beginning."""
    return NO_LETTERS if beginning == "" else beginning


def is_beginning_form(text):
    """Return whether the text is the form of a beginning."""
    return text == NO_LETTERS or valid_word(text)


def beginning_from(form):
    """Return the beginning that has this form."""
    return "" if form == NO_LETTERS else form


def is_number_form(text):
    """Return whether the text has the digits of an integer from 0 on, at most 30 of them, without leading zeros."""
    # No isdigit: it takes digits of other alphabets, too.
    if text == "" or len(text) > MOST_DIGITS or not all(["0" <= sign <= "9" for sign in text]):
        return False
    return text == "0" or text[0] != "0"
