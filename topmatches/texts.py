"""Screens as texts: a line for each screen."""

from topmatches.checks import check_screens
from topmatches.errors import InvalidScreen, InvalidText
from topmatches.forms import beginning_form, beginning_from, is_beginning_form, is_number_form
from topmatches.kinds import MOST_SCREENS, valid_screen


def format_screen(screen):
    """Return the text of the screen."""
    if not valid_screen(screen):
        raise InvalidScreen("a screen is a tuple of a beginning, a limit and the list that was shown")
    return _line_of(screen)


def parse_screen(text):
    """Return the screen that has this text."""
    if not isinstance(text, str):
        raise InvalidText()
    screen = _screen_of(text)
    if screen is None:
        raise InvalidText(0)
    return screen


def format_screens(screens):
    """Return the text of the screens."""
    check_screens(screens)
    return "\n".join([_line_of(screen) for screen in screens])


def parse_screens(text):
    """Return the screens that have this text."""
    if not isinstance(text, str):
        raise InvalidText()
    screens = []
    # Split, the text of no screens would be one empty line.
    lines = [] if text == "" else text.split("\n")
    for number, line in enumerate(lines):
        screen = _screen_of(line)
        if screen is None or number == MOST_SCREENS:
            raise InvalidText(number)
        screens.append(screen)
    return screens


def _line_of(screen):
    """Return the text of what is known to be a screen."""
    beginning, limit, shown = screen
    return " ".join([beginning_form(beginning), str(limit), *shown])


def _screen_of(line):
    """Return the screen that has this text, or None if there is none."""
    parts = line.split(" ")
    if len(parts) < 2 or not is_beginning_form(parts[0]) or not is_number_form(parts[1]):
        return None
    screen = (beginning_from(parts[0]), int(parts[1]), parts[2:])
    return screen if valid_screen(screen) else None
