"""The order in which known words surely stand, in every dictionary that fits."""

from topmatches.checks import check_known
from topmatches.screens import check_no_clash, put_before, shown_words
from topmatches.trees import above_known, all_above, all_below, children_among


def is_before(screens, word, other):
    """Return whether the word is surely before the other one."""
    return reason_for(screens, word, other) is not None


def reason_for(screens, word, other):
    """Return the least number of a screen that puts the word before the other one, or None."""
    _check_word(screens, word)
    check_known(shown_words(screens), other)
    for number, screen in enumerate(screens):
        if word in put_before(screen, other):
            return number
    return None


def words_above(screens, word):
    """Return the words above the word, each one before those that are below it."""
    _check_word(screens, word)
    return all_above(screens, word)


def words_below(screens, word):
    """Return the ascending list of the words below the word."""
    _check_word(screens, word)
    return all_below(screens, word)


def parent_of(screens, word):
    """Return the parent of the word, or None."""
    above = words_above(screens, word)
    return above[-1] if above else None


def children_of(screens, word=None):
    """Return the ascending list of the words whose parent is the word; for None, of those without a parent."""
    if word is None:
        check_no_clash(screens)
    else:
        _check_word(screens, word)
    return children_among(above_known(screens))[word]


def _check_word(screens, word):
    """Raise the first error that applies if the screens have a clash or do not show the word."""
    check_no_clash(screens)
    check_known(shown_words(screens), word)
