"""Checks that raise the error for a value that is not of its kind."""

from topmatches.errors import InvalidBeginning, InvalidDictionary, InvalidLimit, InvalidScreens
from topmatches.kinds import valid_beginning, valid_dictionary, valid_limit, valid_screens


def check_dictionary(value):
    """Raise InvalidDictionary if the value is not a dictionary."""
    if not valid_dictionary(value):
        raise InvalidDictionary("a dictionary is a list of different words")


def check_beginning(value):
    """Raise InvalidBeginning if the value is not a beginning."""
    if not valid_beginning(value):
        raise InvalidBeginning("a beginning is a string of letters from a to z")


def check_limit(value):
    """Raise InvalidLimit if the value is not a limit."""
    if not valid_limit(value):
        raise InvalidLimit("a limit is an integer from 1 to 20")


def check_screens(value):
    """Raise InvalidScreens if the value is not screens."""
    if not valid_screens(value):
        raise InvalidScreens("screens are a list of at most 20 screens")
