"""How words stand above one another, in screens that have no clash.

A word has at most one parent: so the words make up trees, with the words that have no parent on top.
"""

from topmatches.screens import put_before, shown_words


def all_above(screens, word):
    """Return the words above the word, from the highest one to the lowest one."""
    found = {}
    # Shorter beginnings come first: if only a longer one puts a word above this one, then the shorter ones do not
    # show this one (it would clash), so that all that they show stands above both.
    for screen in sorted(screens, key=lambda row: len(row[0])):
        for above in put_before(screen, word):
            found[above] = True
    return list(found)


def all_below(screens, word):
    """Return the ascending list of the words below the word."""
    return [other for other in shown_words(screens) if any([word in put_before(screen, other) for screen in screens])]


def above_among(screens, words):
    """Return, for each of the words, those of them that stand above it, from the highest one to the lowest one."""
    wanted = {word: True for word in words}
    return {word: [other for other in all_above(screens, word) if other in wanted] for word in words}


def above_known(screens):
    """Return, for each known word, the words above it, from the highest one to the lowest one."""
    return above_among(screens, shown_words(screens))


def children_among(above):
    """Return, for each word and for None, the words whose parent it is, in the order of the given table."""
    children = {}
    for word in above:
        children[word] = []
    children[None] = []
    for word, row in above.items():
        parent = row[-1] if row else None
        children[parent].append(word)
    return children


def from_the_top(above):
    """Return the words of the table, each one behind all that are above it."""
    return sorted(above, key=lambda word: len(above[word]))


def some_ranking(screens):
    """Return one of the rankings."""
    return from_the_top(above_known(screens))
