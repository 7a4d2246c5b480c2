"""Answers: the right texts beside which a left one stands."""

from evenlead.graphs import first_way
from evenlead.joining import turned
from evenlead.machines import ends_of
from evenlead.steppers import least
from evenlead.words import NO_LETTER

# State 0 for both of two rows with the same left text, which have not parted yet.
TWO_STARTS = (0, 0, False)


def answers(stepper, left):
    """The ascending answers of a text."""
    return tuple(first_answers(stepper, left))


def has_one_answer(stepper):
    """Whether no text has two answers or more."""
    return first_doubled(stepper) is None


def is_one_to_one(stepper):
    """Whether no text has two answers or more, on either side."""
    return has_one_answer(stepper) and has_one_answer(turned(stepper))


def two_answers(stepper):
    """The first text that has two answers or more, and its first two, or None."""
    left = first_doubled(stepper)
    return None if left is None else (left, *first_answers(stepper, left, 2))


def first_answers(stepper, left, most=None):
    """A list of the answers of a text, ascending, or of so many of them."""
    told = least(stepper)
    closing = closing_states(told, left)
    going = answering_states(told, left, closing)
    found = []
    waiting = [(0, 0, "")] if 0 in going[0] else []
    while waiting and (most is None or len(found) < most):
        at, state, right = waiting.pop()
        if state in closing[at]:
            found.append(right)
        sign = left[at : at + 1] or NO_LETTER
        at = min(at + 1, len(left))
        # The last one is looked at first, so those with letters behind in the alphabet are put ahead.
        for step_left, letter, further in told.rows[state][::-1]:
            if step_left == sign and letter != NO_LETTER and further in going[at]:
                waiting.append((at, further, right + letter))
    return found


def closing_states(told, left):
    """Dicts of the states from which all that is left of a text is read beside no letters, up to an end.

    There is one for each number of letters that were read, from 0 on.
    """
    closing = [ends_of(told)]
    for letter in left[::-1]:
        closing.append(
            {state: True for state, table in enumerate(told.table) if table.get((letter, NO_LETTER)) in closing[-1]}
        )
    return closing[::-1]


def answering_states(told, left, closing):
    """Dicts of the states from which all that is left of a text is read beside any letters, up to an end."""
    # Each state of a least stepper leads to an end, and behind a gap on the left there are but such.
    going = [{state: True for state, row in enumerate(told.rows) if state in closing[-1] or has_left_gap(row)}]
    for at in reversed(range(len(left))):
        going.append(
            {
                state: True
                for state, row in enumerate(told.rows)
                if state in closing[at] or leads_into(row, left[at], going[-1])
            }
        )
    return going[::-1]


def has_left_gap(row):
    """Whether some step reads a letter on the right alone."""
    return any([left == NO_LETTER for left, _, _ in row])


def leads_into(row, letter, states):
    """Whether some step with a letter on the left and any on the right leads to one of some states."""
    return any([left == letter and right != NO_LETTER and further in states for left, right, further in row])


def first_doubled(stepper):
    """The first text that has two answers or more, or None."""
    told = least(stepper)
    many = tails_of(told)
    letters = first_way(
        TWO_STARTS,
        lambda place: steps_of_two(told, place),
        lambda place: has_two(many, place),
    )
    return None if letters is None else "".join(letters)


def steps_of_two(told, place):
    """The steps (letter, place) of two rows with the same left text, which have parted or not."""
    state, other, parted = place
    return [
        (left, (min(further, on), max(further, on), parted or right != beside))
        for left, right, further in told.rows[state]
        for word, beside, on in told.rows[other]
        if left == word and left != NO_LETTER
    ]


def has_two(many, place):
    """Whether two rows can have two answers where their left text is over."""
    state, other, parted = place
    return (many[state] >= 1 and many[other] >= 1) if parted else many[state] >= 2


def tails_of(told):
    """How many texts are read from each state beside no letters, up to an end."""
    ends = ends_of(told)
    longer = [1 if state in ends else 0 for state in range(len(told.rows))]
    many = longer
    while any(longer):
        longer = [sum([longer[further] for left, _, further in row if left == NO_LETTER]) for row in told.rows]
        many = [first + more for first, more in zip(many, longer)]
    return many
