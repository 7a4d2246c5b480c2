"""Texts, signs, rows and pairs."""

LETTERS = "abcdefghijklmnopqrstuvwxyz"
NO_LETTER = "-"


def is_text(thing):
    """Whether any value is a string of letters from a to z, perhaps empty."""
    return isinstance(thing, str) and all([letter in LETTERS for letter in thing])


def is_letter(thing):
    """Whether any value is a letter from a to z."""
    return is_text(thing) and len(thing) == 1


def is_sign(thing):
    """Whether any value is a letter or the sign that stands in the place of none."""
    return thing == NO_LETTER or is_letter(thing)


def is_pair_of_signs(thing):
    """Whether any value is a tuple of two signs."""
    return isinstance(thing, tuple) and len(thing) == 2 and is_sign(thing[0]) and is_sign(thing[1])


def row_of(left, right):
    """The row of a pair: letter beside letter, the shorter text filled up."""
    longer = max(len(left), len(right))
    return tuple(zip(left.ljust(longer, NO_LETTER), right.ljust(longer, NO_LETTER)))


def is_row(thing):
    """Whether any value is the row of some pair."""
    if not isinstance(thing, tuple) or not all([is_pair_of_signs(part) for part in thing]):
        return False
    # A pair has one row only, so signs that stand elsewhere show when it is written anew.
    left, right = pair_of(thing)
    return row_of(left, right) == thing


def pair_of(row):
    """The pair of which this is the row."""
    left = [sign for sign, _ in row if sign != NO_LETTER]
    right = [sign for _, sign in row if sign != NO_LETTER]
    return "".join(left), "".join(right)
