"""Words, beginnings, and what a box shows of a dictionary."""

from topmatches.checks import check_beginning, check_dictionary, check_limit, check_screens
from topmatches.kinds import valid_beginning, valid_word


def is_word(value):
    """Return whether the value is a word."""
    return valid_word(value)


def is_beginning(value):
    """Return whether the value is a beginning."""
    return valid_beginning(value)


def answer_of(dictionary, beginning, limit):
    """Return the first words of the dictionary that match the beginning, at most as many as the limit."""
    check_dictionary(dictionary)
    check_beginning(beginning)
    check_limit(limit)
    return first_matches(dictionary, beginning, limit)


def fits(dictionary, screens):
    """Return whether the dictionary shows all screens."""
    check_dictionary(dictionary)
    check_screens(screens)
    return all([first_matches(dictionary, beginning, limit) == shown for beginning, limit, shown in screens])


def first_matches(words, beginning, limit):
    """Return the answer of words that are known to be a dictionary."""
    return [word for word in words if word.startswith(beginning)][:limit]
