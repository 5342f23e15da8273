"""Checks that raise the error for a value that is not of its kind."""

from topmatches.errors import (
    InvalidBeginning, InvalidDictionary, InvalidIndex, InvalidLimit, InvalidList, InvalidNumber, InvalidScreens,
    UnknownWord,
)
from topmatches.kinds import (
    valid_beginning, valid_dictionary, valid_index, valid_limit, valid_screen, valid_screens,
)


def check_dictionary(value):
    """Raise InvalidDictionary if the value is not a dictionary."""
    if not valid_dictionary(value):
        raise InvalidDictionary("a dictionary is a list of different words")


def check_beginning(value):
    """Raise InvalidBeginning if the value is not a beginning."""
    if not valid_beginning(value):
        raise InvalidBeginning("a beginning is a string of letters from a to z")


def check_limit(value):
    """Raise InvalidLimit if the value is not a limit."""
    if not valid_limit(value):
        raise InvalidLimit("a limit is an integer from 1 to 20")


def check_asked(beginning, limit, shown):
    """Raise the first error that applies if the three values do not make up a screen."""
    check_beginning(beginning)
    check_limit(limit)
    if not valid_screen((beginning, limit, shown)):
        raise InvalidList("no box can show this for the beginning and the limit")


def check_screens(value):
    """Raise InvalidScreens if the value is not screens."""
    if not valid_screens(value):
        raise InvalidScreens("screens are a list of at most 20 screens")


def check_known(known, word):
    """Raise UnknownWord if the word is not one of the known words."""
    if not isinstance(word, str) or word not in known:
        raise UnknownWord("no screen shows this word")


def check_index(index, count):
    """Raise InvalidIndex if this is not the number of one of `count` screens."""
    if not valid_index(index, count):
        raise InvalidIndex("there is no screen with this number")


def check_number(number, many):
    """Raise InvalidNumber if the number is not that of one of `many` things, numbered from 0."""
    if not valid_index(number, many):
        raise InvalidNumber("there is nothing with this number")
