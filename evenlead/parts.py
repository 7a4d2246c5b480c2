"""What pacers and steppers are made of: checks of states, and the lines of their texts."""

from evenlead.errors import BadText
from evenlead.words import is_text

DIGITS = "0123456789"
MOST_DIGITS = 3
NOTHING = "-"


def is_integer(thing):
    """Whether any value is an integer, which a bool is not."""
    return isinstance(thing, int) and not isinstance(thing, bool)


def is_size(thing):
    """Whether any value is a number of states."""
    return is_integer(thing) and thing >= 1


def is_state(thing, size):
    """Whether any value is one of so many states."""
    return is_integer(thing) and 0 <= thing < size


def is_tuple_of_states(thing, size):
    """Whether any value is an ascending tuple of some of so many states."""
    if not isinstance(thing, tuple) or not all([is_state(part, size) for part in thing]):
        return False
    return all([low < high for low, high in zip(thing, thing[1:])])


def word_of(text):
    """The word of a line that stands for a text."""
    return text if text else NOTHING


def line_of(head, states):
    """The line that tells some states behind its first word."""
    told = " ".join([str(state) for state in states])
    return f"{head} {word_of(told)}"


def text_of(word):
    """The text for which a word of a line stands, or None."""
    if word == NOTHING:
        return ""
    return word if word and is_text(word) else None


def number_of(word):
    """The integer that a word of a line is, or None."""
    if not word or len(word) > MOST_DIGITS or not all([digit in DIGITS for digit in word]):
        return None
    number = int(word)
    return number if str(number) == word else None


def lines_of(text):
    """The lines of any value that is a string."""
    if not isinstance(text, str):
        raise BadText(0)
    return text.split("\n")


def words_at(lines, at, head):
    """The words of the line with an index that stand behind its first word, which is given."""
    words = lines[at].split(" ") if at < len(lines) else []
    if words[:1] != [head]:
        raise BadText(at + 1)
    return words[1:]


def size_at(lines, at, head):
    """The number of states that a line tells."""
    words = words_at(lines, at, head)
    size = number_of(words[0]) if len(words) == 1 else None
    if not is_size(size):
        raise BadText(at + 1)
    return size


def states_at(lines, at, head, size):
    """The ascending states that a line tells, of so many."""
    words = words_at(lines, at, head)
    if words == [NOTHING]:
        return ()
    states = tuple([number_of(word) for word in words])
    if not states or not is_tuple_of_states(states, size):
        raise BadText(at + 1)
    return states
