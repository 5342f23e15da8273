"""Which values are words, beginnings, limits, dictionaries and screens.

The modules words and screens ask this of each other's values, and no two files may import from each other:
so the answers stand here, below both.
"""

MOST_SHOWN = 20
MOST_SCREENS = 20


def valid_integer(value):
    """Return whether the value is an integer; True and False are none."""
    return isinstance(value, int) and not isinstance(value, bool)


def valid_index(value, count):
    """Return whether the value is the number of one of `count` things, numbered from 0."""
    return valid_integer(value) and 0 <= value < count


def valid_beginning(value):
    """Return whether the value is a string of letters from a to z, or the empty string."""
    # No isalpha or islower: they take letters of other alphabets, too.
    return isinstance(value, str) and all(["a" <= letter <= "z" for letter in value])


def valid_word(value):
    """Return whether the value is a string of one or more letters from a to z."""
    return valid_beginning(value) and value != ""


def valid_limit(value):
    """Return whether the value is an integer that a box can have as its limit."""
    return valid_integer(value) and 1 <= value <= MOST_SHOWN


def valid_dictionary(value):
    """Return whether the value is a list of different words."""
    # The words are tested first, because not every value can be a member of a set.
    return isinstance(value, list) and all([valid_word(word) for word in value]) and len(set(value)) == len(value)


def valid_screen(value):
    """Return whether the value is a screen: a beginning, a limit, and a list that a box can show for them."""
    if not isinstance(value, tuple) or len(value) != 3:
        return False
    beginning, limit, shown = value
    if not valid_beginning(beginning) or not valid_limit(limit) or not valid_dictionary(shown):
        return False
    return len(shown) <= limit and all([word.startswith(beginning) for word in shown])


def valid_screens(value):
    """Return whether the value is a list of screens, not too many of them."""
    return isinstance(value, list) and len(value) <= MOST_SCREENS and all([valid_screen(screen) for screen in value])
