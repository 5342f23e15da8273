"""Rankings: how many there are, and their numbers."""

from math import factorial

from topmatches.checks import check_number
from topmatches.errors import NotRanking
from topmatches.kinds import valid_dictionary
from topmatches.numbering import nth_row, row_number
from topmatches.screens import check_no_clash, shown_words
from topmatches.trees import above_known, children_among
from topmatches.words import fits


def count_rankings(screens):
    """Return the number of rankings."""
    check_no_clash(screens)
    return number_of_rankings(screens)


def number_of_rankings(screens):
    """Return the number of rankings of screens that are known to have no clash."""
    above = above_known(screens)
    return _count_orders(_divisors(above), children_among(above)[None], len(above))


def is_ranking(screens, value):
    """Return whether the value is a ranking."""
    check_no_clash(screens)
    # A list of all known words is a ranking if and only if it is a dictionary that fits.
    return valid_dictionary(value) and sorted(value) == shown_words(screens) and fits(value, screens)


def nth_ranking(screens, number):
    """Return the ranking with this number, counted from 0 in ascending order."""
    check_number(number, count_rankings(screens))
    above = above_known(screens)
    divisors = _divisors(above)
    return nth_row(children_among(above), lambda tops, size: _count_orders(divisors, tops, size), len(above), number)


def ranking_index(screens, ranking):
    """Return the number of the ranking, counted from 0 in ascending order."""
    if not is_ranking(screens, ranking):
        raise NotRanking("this is not a ranking")
    above = above_known(screens)
    divisors = _divisors(above)
    return row_number(children_among(above), lambda tops, size: _count_orders(divisors, tops, size), ranking)


def _count_orders(divisors, tops, size):
    """Return the number of orders of the words of some trees: `size` words, these ones on top."""
    divisor = 1
    for word in tops:
        divisor = divisor * divisors[word]
    return factorial(size) // divisor


def _divisors(above):
    """Return, for each word, the product of the sizes of all trees that have this word or one below it on top."""
    sizes = {word: 1 for word in above}
    for row in above.values():
        for higher in row:
            sizes[higher] = sizes[higher] + 1
    divisors = dict(sizes)
    for word, row in above.items():
        for higher in row:
            divisors[higher] = divisors[higher] * sizes[word]
    return divisors
