"""The order in which known words surely stand, in every dictionary that fits."""

from topmatches.errors import UnknownWord
from topmatches.screens import check_no_clash, known_words, put_before


def is_before(screens, word, other):
    """Return whether the word is surely before the other one."""
    return reason_for(screens, word, other) is not None


def reason_for(screens, word, other):
    """Return the least number of a screen that puts the word before the other one, or None."""
    known = _checked_known(screens)
    _check_known(known, word)
    _check_known(known, other)
    for number, screen in enumerate(screens):
        if word in put_before(screen, other):
            return number
    return None


def words_above(screens, word):
    """Return the words above the word, each one before those that are below it."""
    _check_known(_checked_known(screens), word)
    return _all_above(screens, word)


def words_below(screens, word):
    """Return the ascending list of the words below the word."""
    known = _checked_known(screens)
    _check_known(known, word)
    return [other for other in known if any([word in put_before(screen, other) for screen in screens])]


def parent_of(screens, word):
    """Return the parent of the word, or None."""
    _check_known(_checked_known(screens), word)
    return _lowest_above(screens, word)


def children_of(screens, word=None):
    """Return the ascending list of the words whose parent is the word; for None, of those without a parent."""
    known = _checked_known(screens)
    if word is not None:
        _check_known(known, word)
    return [child for child in known if _lowest_above(screens, child) == word]


def _checked_known(screens):
    """Return the known words of screens that must have no clash."""
    check_no_clash(screens)
    return known_words(screens)


def _check_known(known, word):
    """Raise UnknownWord if the word is not a known one."""
    if not isinstance(word, str) or word not in known:
        raise UnknownWord("no screen shows this word")


def _all_above(screens, word):
    """Return the words above the word, from the highest one to the lowest one."""
    found = {}
    # Shorter beginnings come first: if only a longer one puts a word above this one, then the shorter ones do not
    # show this one (it would clash), so that all that they show stands above both.
    for screen in sorted(screens, key=lambda row: len(row[0])):
        for above in put_before(screen, word):
            found[above] = True
    return list(found)


def _lowest_above(screens, word):
    """Return the last one of the words above the word, or None."""
    found = _all_above(screens, word)
    return found[-1] if found else None
