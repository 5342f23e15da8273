"""Places of known words, and what must be typed to see a word."""

from topmatches.checks import check_beginning, check_known, check_limit
from topmatches.errors import NoMatch
from topmatches.screens import check_no_clash, shown_words
from topmatches.trees import all_above, all_below


def place_range(screens, beginning, word, *, only_known=False):
    """Return the least and the greatest place of the word, None for the latter if there is none.

    With `only_known`, only rankings are considered, which have no other words.
    """
    check_no_clash(screens)
    check_beginning(beginning)
    check_known(shown_words(screens), word)
    if not word.startswith(beginning):
        raise NoMatch("the word does not match the beginning")
    least = _least_place(screens, beginning, word)
    if only_known:
        behind = _matching(all_below(screens, word), beginning)
        return (least, len(_matching(shown_words(screens), beginning)) - 1 - len(behind))
    return (least, least if _has_one_place(screens, beginning, word) else None)


def sure_beginning(screens, word, limit):
    """Return the shortest beginning for which every dictionary that fits answers with the word, or None."""
    for beginning in _possible_beginnings(screens, word, limit):
        if _has_one_place(screens, beginning, word):
            return beginning
    return None


def possible_beginning(screens, word, limit):
    """Return the shortest beginning for which some dictionary that fits answers with the word, or None."""
    beginnings = _possible_beginnings(screens, word, limit)
    return beginnings[0] if beginnings else None


def _possible_beginnings(screens, word, limit):
    """Return all beginnings for which some dictionary that fits answers with the word, the shortest one first."""
    check_no_clash(screens)
    check_known(shown_words(screens), word)
    check_limit(limit)
    beginnings = [word[:size] for size in range(len(word) + 1)]
    return [beginning for beginning in beginnings if _least_place(screens, beginning, word) < limit]


def _least_place(screens, beginning, word):
    """Return the number of the words above the word that match the beginning."""
    return len(_matching(all_above(screens, word), beginning))


def _has_one_place(screens, beginning, word):
    """Return whether the word has the same place in all dictionaries that fit."""
    # Elsewhere, words that are not known can stand before it.
    return any([word in shown and beginning.startswith(own_beginning) for own_beginning, _, shown in screens])


def _matching(words, beginning):
    """Return the words that match the beginning."""
    return [word for word in words if word.startswith(beginning)]
