"""Screens, the words that they show, and how two of them clash."""

from topmatches.checks import check_beginning, check_limit, check_screens
from topmatches.errors import ScreensClash
from topmatches.kinds import valid_index, valid_screen, valid_screens


def is_screen(value):
    """Return whether the value is a screen."""
    return valid_screen(value)


def are_screens(value):
    """Return whether the value is screens."""
    return valid_screens(value)


def known_words(screens):
    """Return the ascending list of the words that the screens show."""
    check_screens(screens)
    return shown_words(screens)


def find_clash(screens):
    """Return a clash of the screens, or None if there is none."""
    check_screens(screens)
    return first_clash(screens)


def is_clash(screens, value):
    """Return whether the value is a clash of the screens."""
    check_screens(screens)
    if not isinstance(value, tuple) or len(value) not in (4, 5):
        return False
    kind, i, k, *words = value
    if not valid_index(i, len(screens)) or not valid_index(k, len(screens)):
        return False
    if not isinstance(kind, str) or not all([isinstance(part, str) for part in words]):
        return False
    if len(words) == 1:
        return kind == "missing" and _misses(screens[i], words[0]) and words[0] in screens[k][2]
    word, other = words
    return kind == "order" and word in put_before(screens[i], other) and other in put_before(screens[k], word)


def check_no_clash(screens):
    """Raise InvalidScreens if the value is not screens, then ScreensClash if there is a clash."""
    clash = find_clash(screens)
    if clash is not None:
        raise ScreensClash(clash)


def check_question(screens, beginning, limit):
    """Raise the first error that applies if this is not a question about screens without a clash."""
    check_no_clash(screens)
    check_beginning(beginning)
    check_limit(limit)


def copied_screen(screen):
    """Return a copy of what is known to be a screen."""
    beginning, limit, shown = screen
    return (beginning, limit, list(shown))


# The functions below take lists of more than 20 screens, too: those of a caller and one more.


def shown_words(screens):
    """Return the ascending list of the words that the screens show."""
    return sorted({word for screen in screens for word in screen[2]})


def first_clash(screens):
    """Return a clash of the screens, or None if there is none."""
    for i, one in enumerate(screens):
        for k, other in enumerate(screens):
            for word in other[2]:
                if _misses(one, word):
                    return ("missing", i, k, word)
            pair = _swapped_words(one, other)
            if pair is not None:
                return ("order", i, k, *pair)
    return None


def put_before(screen, word):
    """Return the words that the screen puts before the word, in the order in which it shows them."""
    beginning, _, shown = screen
    if not word.startswith(beginning):
        return []
    return shown[:shown.index(word)] if word in shown else list(shown)


def _misses(screen, word):
    """Return whether the screen is short and does not show the word, although the word matches."""
    beginning, limit, shown = screen
    return len(shown) < limit and word.startswith(beginning) and word not in shown


def _swapped_words(one, other):
    """Return two words that the screens put in different orders, or None."""
    # Of the words that match both beginnings, one screen shows a few more than the other one, or just as many.
    # Up to there the words are the same, or the first two that differ are put in different orders.
    ours = [word for word in one[2] if word.startswith(other[0])]
    theirs = [word for word in other[2] if word.startswith(one[0])]
    for first, second in zip(ours, theirs):
        if first != second:
            return (first, second)
    return None
