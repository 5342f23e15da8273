"""Rows of words, each one behind its parent, numbered from 0 in ascending order.

All rows of which these functions tell have the same length. `children` has the ascending list of the words whose
parent a word is, and for None of those without a parent. `count_rows(free, left)` tells how many rows of `left` words
there are, if the words above the free ones have their places and no word but these can stand first.
"""


def nth_row(children, count_rows, size, number):
    """Return the row of `size` words with this number."""
    row = []
    free = children[None]
    for left in reversed(range(size)):
        for word in free:
            freed = _free_behind(children, free, word)
            many = count_rows(freed, left)
            if number < many:
                break
            number -= many
        row.append(word)
        free = freed
    return row


def row_number(children, count_rows, row):
    """Return the number of the row."""
    number = 0
    free = children[None]
    for place, word in enumerate(row):
        left = len(row) - place - 1
        for other in free:
            if other < word:
                number += count_rows(_free_behind(children, free, other), left)
        free = _free_behind(children, free, word)
    return number


def _free_behind(children, free, word):
    """Return the ascending list of the words that can stand right behind the word, if it is one of the free ones."""
    return sorted([other for other in free if other != word] + children[word])
