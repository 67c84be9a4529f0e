"""Names, and the plain checks of form that all other modules share."""

LETTERS = "abcdefghijklmnopqrstuvwxyz"
MOST_LETTERS = 8
WORDS_OF_SAYINGS = ("is", "hour", "to", "not", "and", "or")
FIGURES = "0123456789"
MOST_FIGURES = 2


def is_name(thing):
    """Tell whether a thing, of any kind, is a name."""
    if not isinstance(thing, str) or not 1 <= len(thing) <= MOST_LETTERS:
        return False
    return thing not in WORDS_OF_SAYINGS and all([letter in LETTERS for letter in thing])


def is_whole(thing, least, most):
    """Tell whether a thing, of any kind, is a whole number from LEAST to MOST."""
    # Python counts True and False among the ints; here they are truths and no numbers.
    return isinstance(thing, int) and not isinstance(thing, bool) and least <= thing <= most


def is_row(thing, least, most):
    """Tell whether a thing, of any kind, is a tuple of LEAST to MOST parts."""
    return isinstance(thing, tuple) and least <= len(thing) <= most


def is_rising(parts):
    """Tell whether each of the parts, all of one kind, is less than the one behind it."""
    return all([parts[at] < parts[at + 1] for at in range(len(parts) - 1)])


def are_pairs(thing, least, most):
    """Tell whether a thing, of any kind, is a tuple of LEAST to MOST pairs of names, rising by unlike first ones."""
    if not is_row(thing, least, most) or not all([is_pair(part) for part in thing]):
        return False
    return is_rising([name for name, value in thing])


def is_pair(thing):
    """Tell whether a thing, of any kind, is a tuple of two names."""
    return is_row(thing, 2, 2) and is_name(thing[0]) and is_name(thing[1])


def read_number(word):
    """Tell the whole number that a word of one or two figures writes; None where it writes none."""
    if not 1 <= len(word) <= MOST_FIGURES or not all([sign in FIGURES for sign in word]):
        return None
    if len(word) > 1 and word[0] == "0":
        return None
    return int(word)
