"""Joining: the least steppers of pairs that are made of the pairs that steppers tell."""

from evenlead.graphs import reached, turned_about
from evenlead.instep import stepper_of
from evenlead.machines import (
    TOLD_BY_BOTH,
    TOLD_BY_ONE,
    TOLD_BY_OTHER,
    machine_of,
    slim_machine,
    slim_pacer,
    stepper_of_machine,
    told_together,
)
from evenlead.merging import explored
from evenlead.words import NO_LETTER

# What a column of two rows shows if neither text of a pair goes on.
NO_LETTERS = (NO_LETTER, NO_LETTER)
# In the place of a place of a machine: the row that it reads is over.
OVER = None


def both(one, other):
    """The pairs that two steppers both tell."""
    return told_together(one, other, (TOLD_BY_BOTH,))


def either(one, other):
    """The pairs that one of two steppers tells."""
    return told_together(one, other, (TOLD_BY_BOTH, TOLD_BY_ONE, TOLD_BY_OTHER))


def without(one, other):
    """The pairs that the first stepper tells and the second one does not."""
    return told_together(one, other, (TOLD_BY_ONE,))


def turned(stepper):
    """The told pairs with left and right exchanged."""
    starts, steps, ends = machine_of(stepper)
    exchanged = {place: [((right, left), further) for (left, right), further in steps[place]] for place in steps}
    return stepper_of_machine(starts, exchanged, ends)


def backward(stepper):
    """The told pairs with both texts read from behind."""
    return stepper_of(slim_pacer(stepper).backward())


def behind(one, other):
    """The pairs (x + u, y + v) for a pair (x, y) of the first stepper and a pair (u, v) of the second one."""
    return stepper_of(slim_pacer(one) + slim_pacer(other))


def through(one, other):
    """The pairs (x, z) for which the first stepper tells (x, y) and the second one (y, z), for some text y."""
    first, second = slim_machine(one), slim_machine(other)
    starts = [(place, beside) for place in first[0] for beside in second[0]]
    steps = explored(starts, lambda places: linked_steps(first, second, places))
    ends = [(place, beside) for place, beside in steps if can_be_over(first, place) and can_be_over(second, beside)]
    return stepper_of_outer(starts, steps, ends)


def all_within(left_letters, right_letters, most):
    """All pairs of texts of these letters whose differences are at most a number, and at least this one below 0."""
    # A place is the difference of what was read so far.
    steps = {difference: [] for difference in range(-most, most + 1)}
    steps[0].extend([((left, right), 0) for left in left_letters for right in right_letters])
    for ahead in range(most):
        steps[ahead].extend([((left, NO_LETTER), ahead + 1) for left in left_letters])
        steps[-ahead].extend([((NO_LETTER, right), -ahead - 1) for right in right_letters])
    return stepper_of_machine([0], steps, list(steps))


def same_left(stepper):
    """The pairs of each left text of a told pair and this text once more."""
    starts, steps, ends = slim_machine(stepper)
    doubled = {place: [((left, left), further) for (left, _), further in steps[place]] for place in steps}
    return stepper_of_outer(starts, doubled, ends)


def linked_steps(first, second, places):
    """The steps by which two machines read one text, the first one on the right and the second one on the left."""
    place, beside = places
    return [
        ((left, right), (further, on))
        for (left, between), further in steps_with_over(first, place)
        for (other, right), on in steps_with_over(second, beside)
        if between == other
    ]


def steps_with_over(machine, place):
    """The steps of a place of a machine, and the one by which its row is over while that of another one goes on."""
    steps = machine[1][place] if place is not None else []
    return [*steps, (NO_LETTERS, OVER)] if can_be_over(machine, place) else steps


def can_be_over(machine, place):
    """Whether the row that a machine reads is over at a place, or ends there."""
    return place is None or place in machine[2]


def stepper_of_outer(starts, steps, ends):
    """The least stepper of a machine that also has steps without a letter, all of them behind those with letters."""
    silent = {place: [further for signs, further in steps[place] if signs == NO_LETTERS] for place in steps}
    told = {place: [step for step in steps[place] if step[0] != NO_LETTERS] for place in steps}
    return stepper_of_machine(starts, told, reached(ends, turned_about(silent)))
