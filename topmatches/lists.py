"""The answers that rankings have: how many there are, and their numbers.

The answers for a beginning are the starts of the orders of the known words that match it. A start of some trees is a
row of some of their words, each one behind all words above it.
"""

from math import comb

from topmatches.checks import check_number
from topmatches.errors import NotAnswer
from topmatches.kinds import valid_screen
from topmatches.numbering import nth_row, row_number
from topmatches.screens import check_question, first_clash, shown_words
from topmatches.trees import above_among, children_among, from_the_top


def count_answers(screens, beginning, limit):
    """Return the number of different answers that the rankings have."""
    check_question(screens, beginning, limit)
    children, starts, size = _counted(screens, beginning, limit)
    return _count_starts(starts, children[None], size)


def nth_answer(screens, beginning, limit, number):
    """Return the answer with this number, counted from 0 in ascending order."""
    check_number(number, count_answers(screens, beginning, limit))
    children, starts, size = _counted(screens, beginning, limit)
    return nth_row(children, lambda tops, left: _count_starts(starts, tops, left), size, number)


def answer_index(screens, beginning, limit, shown):
    """Return the number of the answer, counted from 0 in ascending order."""
    check_question(screens, beginning, limit)
    if not _is_answer(screens, (beginning, limit, shown)):
        raise NotAnswer("no ranking has this answer")
    children, starts, _ = _counted(screens, beginning, limit)
    return row_number(children, lambda tops, left: _count_starts(starts, tops, left), shown)


def _is_answer(screens, asked):
    """Return whether a ranking has the answer that this tuple of a beginning, a limit and a value tells."""
    if not valid_screen(asked) or first_clash([*screens, asked]) is not None:
        return False
    known = shown_words(screens)
    return all([word in known for word in asked[2]])


def _counted(screens, beginning, limit):
    """Return the children of each known word that matches, the numbers of its starts, and an answer's length."""
    above = above_among(screens, [word for word in shown_words(screens) if word.startswith(beginning)])
    children = children_among(above)
    size = min(limit, len(above))
    starts = {}
    # From the bottom: a start of a tree is empty, or its top and a start of the trees below that.
    for word in reversed(from_the_top(above)):
        behind = _starts_together([starts[child] for child in children[word]], size)
        starts[word] = [1, *behind[:size]]
    return children, starts, size


def _count_starts(starts, tops, size):
    """Return how many starts of `size` words there are of the trees with these words on top."""
    return _starts_together([starts[word] for word in tops], size)[size]


def _starts_together(rows, most):
    """Return how many starts of 0, 1, .. up to `most` words some trees have together; each row tells it of one."""
    together = [1] + [0] * most
    for row in rows:
        together = [_starts_of_two(row, together, size) for size in range(most + 1)]
    return together


def _starts_of_two(row, other, size):
    """Return how many starts of `size` words two trees have together, or two groups of trees."""
    # Each is made of a start on either side, and of the choice of the places that the first side takes.
    return sum([comb(size, part) * row[part] * other[size - part] for part in range(size + 1)])
