"""A console: lines of text that fill a notebook and ask about its screens."""

from topmatches.errors import InvalidCommand
from topmatches.forms import beginning_form, beginning_from, is_beginning_form, is_number_form
from topmatches.kinds import valid_word
from topmatches.notebooks import Notebook
from topmatches.order import is_before, words_above
from topmatches.places import place_range, sure_beginning
from topmatches.rankings import nth_ranking
from topmatches.reducing import reduced
from topmatches.texts import format_screen

# What follows the name of a command: P is a beginning, W a word, N a number. Behind `see`, words may follow these.
FORMS = {
    "see": "PN", "drop": "N", "undo": "", "known": "", "before": "WW", "above": "W", "rankings": "", "ranking": "N",
    "ask": "PN", "place": "PW", "need": "WN", "spare": "",
}
UNSURE = "?"
NOTHING = "."


def _see(notebook, values):
    beginning, limit, *shown = values
    return str(notebook.add(beginning, limit, shown))


def _drop(notebook, values):
    return format_screen(notebook.drop(values[0]))


def _undo(notebook, values):
    notebook.undo()
    return "ok"


def _known(notebook, values):
    return _listed(notebook.words_now)


def _before(notebook, values):
    word, other = values
    return "yes" if is_before(notebook.screens_now, word, other) else "no"


def _above(notebook, values):
    return _listed(words_above(notebook.screens_now, values[0]))


def _rankings(notebook, values):
    return str(notebook.rankings_now)


def _ranking(notebook, values):
    return _listed(nth_ranking(notebook.screens_now, values[0]))


def _ask(notebook, values):
    beginning, limit = values
    answer = notebook.ask(beginning, limit)
    return UNSURE if answer is None else _listed(answer)


def _place(notebook, values):
    beginning, word = values
    least, greatest = place_range(notebook.screens_now, beginning, word)
    return _listed([least, UNSURE if greatest is None else greatest])


def _need(notebook, values):
    word, limit = values
    beginning = sure_beginning(notebook.screens_now, word, limit)
    return UNSURE if beginning is None else beginning_form(beginning)


def _spare(notebook, values):
    remaining = reduced(notebook.screens_now)
    return _listed([number for number in range(len(notebook)) if number not in remaining])


ACTIONS = {
    "see": _see, "drop": _drop, "undo": _undo, "known": _known, "before": _before, "above": _above,
    "rankings": _rankings, "ranking": _ranking, "ask": _ask, "place": _place, "need": _need, "spare": _spare,
}


class Console:
    """A notebook that is used by lines of text."""

    def __init__(self):
        self._notebook = Notebook()

    def execute(self, line):
        """Do what the line says, and return the answer."""
        name, values = _read_line(line)
        action = ACTIONS[name]
        return action(self._notebook, values)


def _read_line(line):
    """Return the name of the command of the line, and the list of the values behind it."""
    if not isinstance(line, str):
        raise InvalidCommand("a line is a string")
    name, *words = line.split(" ")
    if name not in FORMS:
        raise InvalidCommand("there is no such command")
    form = FORMS[name]
    if name == "see":
        form = form + "W" * (len(words) - len(form))
    if len(words) != len(form) or not all([_has_form(word, letter) for word, letter in zip(words, form)]):
        raise InvalidCommand("this is not what follows the command")
    return name, [_value_of(word, letter) for word, letter in zip(words, form)]


def _has_form(word, letter):
    """Return whether the word of a line has the form that the letter stands for."""
    if letter == "P":
        return is_beginning_form(word)
    return valid_word(word) if letter == "W" else is_number_form(word)


def _value_of(word, letter):
    """Return the beginning, the word or the number that this word of a line stands for."""
    if letter == "P":
        return beginning_from(word)
    return word if letter == "W" else int(word)


def _listed(parts):
    """Return the words or the numbers of an answer, separated by single spaces."""
    return " ".join([str(part) for part in parts]) if parts else NOTHING
