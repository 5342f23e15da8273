"""Notebooks: screens without a clash that are added and dropped one by one."""

from topmatches.answers import sure_answer
from topmatches.checks import check_asked, check_index
from topmatches.errors import NotebookFull, NothingToUndo, ScreensClash
from topmatches.rankings import number_of_rankings
from topmatches.screens import check_no_clash, copied_screen, first_clash, shown_words


class Notebook:
    """Screens without a clash, and the operations that can be undone."""

    MOST_SCREENS = 20

    def __init__(self, *screens):
        check_no_clash(list(screens))
        # No list that stands here, or within it, is ever changed: so earlier lists, and copies, may share them.
        self._screens = [copied_screen(screen) for screen in screens]
        self._earlier = []

    def add(self, beginning, limit, shown):
        """Add a screen behind the others and return its number."""
        check_asked(beginning, limit, shown)
        number = len(self._screens)
        if number == Notebook.MOST_SCREENS:
            raise NotebookFull("a notebook has room for 20 screens")
        screens = [*self._screens, copied_screen((beginning, limit, shown))]
        clash = first_clash(screens)
        if clash is not None:
            raise ScreensClash(clash)
        self._change_to(screens)
        return number

    def drop(self, index):
        """Take the screen with this number out and return it."""
        check_index(index, len(self._screens))
        dropped = copied_screen(self._screens[index])
        self._change_to([*self._screens[:index], *self._screens[index + 1:]])
        return dropped

    def undo(self):
        """Undo the last operation that is not undone."""
        if len(self._earlier) == 0:
            raise NothingToUndo("no screen was added or dropped that is not undone")
        self._screens = self._earlier.pop()

    def ask(self, beginning, limit):
        """Return the answer that all dictionaries that fit have, or None if their answers differ."""
        return sure_answer(self._screens, beginning, limit)

    def copy_of(self):
        """Return an independent notebook of the same class with the same screens and operations to undo."""
        copied = self._empty_one()
        copied._screens = self._screens
        copied._earlier = list(self._earlier)
        return copied

    @property
    def screens_now(self):
        """The list of the screens."""
        return [copied_screen(screen) for screen in self._screens]

    @property
    def words_now(self):
        """The ascending list of the known words."""
        return shown_words(self._screens)

    @property
    def rankings_now(self):
        """The number of rankings."""
        return number_of_rankings(self._screens)

    def __len__(self):
        return len(self._screens)

    def __eq__(self, other):
        return isinstance(other, Notebook) and self._screens == other._screens

    def _change_to(self, screens):
        """Take these screens, so that this can be undone."""
        self._earlier.append(self._screens)
        self._screens = screens

    @classmethod
    def _empty_one(cls):
        """Return a notebook without screens, of this class or of the one below it that is asked."""
        return cls()
