"""The errors that this package raises."""


class TopMatchesError(ValueError):
    """Any error of this package."""


class InvalidDictionary(TopMatchesError):
    """A value is not a dictionary."""


class InvalidBeginning(TopMatchesError):
    """A value is not a beginning."""


class InvalidLimit(TopMatchesError):
    """A value is not a limit."""


class InvalidScreen(TopMatchesError):
    """A value is not a screen."""


class InvalidScreens(TopMatchesError):
    """A value is not a list of screens."""


class ScreensClash(TopMatchesError):
    """No dictionary shows all screens; `clash` tells two that clash."""

    def __init__(self, clash):
        super().__init__("the screens clash")
        self.clash = clash


class UnknownWord(TopMatchesError):
    """A value is not a known word."""


class InvalidNumber(TopMatchesError):
    """A value is not the number of a ranking or of an answer."""


class NotRanking(TopMatchesError):
    """A value is not a ranking."""


class InvalidList(TopMatchesError):
    """A value is not a list that a screen can show."""


class NoMatch(TopMatchesError):
    """A word does not match a beginning."""


class NotAnswer(TopMatchesError):
    """A value is not an answer of a ranking."""


class InvalidIndex(TopMatchesError):
    """A value is not the number of a screen."""


class NotebookFull(TopMatchesError):
    """A notebook has no room for another screen."""


class NothingToUndo(TopMatchesError):
    """A notebook has no operation to undo."""


class InvalidText(TopMatchesError):
    """A value is not a text of screens; `line` is the number of the line that is wrong, or None."""

    def __init__(self, line=None):
        super().__init__("this is not a text of screens")
        self.line = line


class InvalidCommand(TopMatchesError):
    """A value is not a line that a console takes."""
