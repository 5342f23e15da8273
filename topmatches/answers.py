"""Answers: which ones dictionaries that fit can have, and which one all of them have."""

from topmatches.checks import check_asked
from topmatches.screens import check_no_clash, check_question, first_clash, shown_words
from topmatches.trees import some_ranking
from topmatches.words import first_matches

LETTERS = "abcdefghijklmnopqrstuvwxyz"


def can_answer(screens, beginning, limit, shown):
    """Return whether some dictionary that fits has this answer."""
    check_no_clash(screens)
    check_asked(beginning, limit, shown)
    return first_clash([*screens, (beginning, limit, shown)]) is None


def dictionary_with(screens, beginning, limit, shown):
    """Return a dictionary that fits and has this answer, or None if there is none."""
    if not can_answer(screens, beginning, limit, shown):
        return None
    return some_ranking([*screens, (beginning, limit, shown)])


def sure_answer(screens, beginning, limit):
    """Return the answer that all dictionaries that fit have, or None if their answers differ."""
    number = deciding_screen(screens, beginning, limit)
    return None if number is None else first_matches(screens[number][2], beginning, limit)


def deciding_screen(screens, beginning, limit):
    """Return the least number of a screen that decides the beginning and the limit, or None."""
    check_question(screens, beginning, limit)
    for number, screen in enumerate(screens):
        if decides(screen, beginning, limit):
            return number
    return None


def two_dictionaries(screens, beginning, limit):
    """Return two dictionaries that fit and have different answers, or None if there are none."""
    if deciding_screen(screens, beginning, limit) is not None:
        return None
    return (some_ranking(screens), some_ranking([*screens, _with_new_word(screens, beginning)]))


def decides(screen, beginning, limit):
    """Return whether the screen decides the beginning and the limit."""
    own_beginning, own_limit, shown = screen
    if not beginning.startswith(own_beginning):
        return False
    return len(shown) < own_limit or len(first_matches(shown, beginning, limit)) == limit


def _with_new_word(screens, beginning):
    """Return a screen that shows a word that is not known, as early as the screens that do not decide allow it."""
    rows = [
        [word for word in shown if word.startswith(beginning)]
        for own_beginning, _, shown in screens if beginning.startswith(own_beginning)
    ]
    # These screens put what they show before all else that matches: so the longest row begins with all others.
    first = max(rows, key=len, default=[])
    return (beginning, len(first) + 1, [*first, _new_word(screens, beginning)])


def _new_word(screens, beginning):
    """Return a word that is not known, matches the beginning, and matches no longer beginning of a screen."""
    place = len(beginning)
    taken = [screen[0][place:place + 1] for screen in screens if screen[0].startswith(beginning)]
    # There are more letters than screens, so that one is left.
    free = [letter for letter in LETTERS if letter not in taken]
    known = shown_words(screens)
    word = beginning + free[0]
    while word in known:
        word += free[0]
    return word
