"""Comparing: whether two steppers tell the same pairs, and which pair parts them."""

from evenlead.graphs import first_way
from evenlead.machines import BOTH_STARTS, TOLD_BY_ONE, TOLD_BY_OTHER, ends_of, steps_together, who_tells
from evenlead.steppers import least
from evenlead.words import pair_of


def is_alike(one, other):
    """Whether two steppers tell the same pairs."""
    return least(one) == least(other)


def is_part(one, other):
    """Whether the other stepper tells all pairs that the first one tells."""
    return missing(one, other) is None


def parting(one, other):
    """The first pair that just one of two steppers tells, or None."""
    return first_pair(one, other, (TOLD_BY_ONE, TOLD_BY_OTHER))


def missing(one, other):
    """The first pair that the first stepper tells and the other one does not, or None."""
    return first_pair(one, other, (TOLD_BY_ONE,))


def first_pair(one, other, kinds):
    """The first pair that both or just one of two steppers tell, as some kinds say, or None."""
    first, second = least(one), least(other)
    ends, other_ends = ends_of(first), ends_of(second)
    row = first_way(
        BOTH_STARTS,
        lambda place: steps_together(first, second, place),
        lambda place: who_tells(ends, other_ends, place) in kinds,
    )
    return None if row is None else pair_of(row)
