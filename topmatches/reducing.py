"""Which screens say nothing new, and whether two lists of screens say the same."""

from topmatches.answers import deciding_screen, decides, sure_answer, two_dictionaries
from topmatches.checks import check_index
from topmatches.screens import check_no_clash
from topmatches.trees import some_ranking
from topmatches.words import first_matches


def is_implied(screens, index):
    """Return whether every dictionary that fits the other screens shows the screen with this number."""
    check_no_clash(screens)
    check_index(index, len(screens))
    beginning, limit, _ = screens[index]
    return deciding_screen([*screens[:index], *screens[index + 1:]], beginning, limit) is not None


def reduced(screens):
    """Return the ascending list of the numbers of the screens that remain if the others are left out."""
    check_no_clash(screens)
    return [number for number in range(len(screens)) if not _is_left_out(screens, number)]


def say_same(screens, other):
    """Return whether the same dictionaries fit both lists of screens."""
    check_no_clash(screens)
    check_no_clash(other)
    return not _unsure(screens, other) and not _unsure(other, screens)


def telling_dictionary(screens, other):
    """Return a dictionary that fits one of the two lists of screens and not the other one, or None."""
    check_no_clash(screens)
    check_no_clash(other)
    for fitted, missed in ((screens, other), (other, screens)):
        unsure = _unsure(fitted, missed)
        if unsure:
            return _dictionary_against(fitted, unsure[0])
    return None


def _is_left_out(screens, number):
    """Return whether the screen with this number is left out because of another one."""
    return any([_replaces(screens, other, number) for other in range(len(screens)) if other != number])


def _replaces(screens, other, number):
    """Return whether one screen lets another one be left out; of two that decide one another the earlier remains."""
    if not _decides_screen(screens[other], screens[number]):
        return False
    return other < number or not _decides_screen(screens[number], screens[other])


def _decides_screen(screen, other):
    """Return whether the screen decides the beginning and the limit of the other one."""
    beginning, limit, _ = other
    return decides(screen, beginning, limit)


def _unsure(screens, other):
    """Return those of the other screens that some dictionary that fits the first ones does not show."""
    return [screen for screen in other if sure_answer(screens, screen[0], screen[1]) != screen[2]]


def _dictionary_against(screens, unsure):
    """Return a dictionary that fits the screens and does not show this one, which not all of them show."""
    beginning, limit, shown = unsure
    pair = two_dictionaries(screens, beginning, limit)
    if pair is None:
        # All of them have the same answer, and it is another one.
        return some_ranking(screens)
    one, second = pair
    return second if first_matches(one, beginning, limit) == shown else one
