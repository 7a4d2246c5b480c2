"""Counting: how many pairs are told, and their numbers in order."""

from evenlead.errors import NotTold
from evenlead.graphs import has_ring
from evenlead.machines import ends_of
from evenlead.steppers import least
from evenlead.words import pair_of, row_of


def how_many(stepper, length):
    """How many told pairs have a length."""
    told = least(stepper)
    many = many_over(told)
    for _ in range(length):
        many = many_longer(told, many)
        # Far lengths need no look if there are no pairs any more.
        if not any(many):
            return 0
    return many[0]


def is_finite(stepper):
    """Whether finitely many pairs are told."""
    # Each ring of a least stepper is on the way to an end.
    told = least(stepper)
    return not has_ring({state: [further for _, _, further in row] for state, row in enumerate(told.rows)})


def pair_at(stepper, index):
    """The told pair with an index, in order, or None if there are not so many."""
    told = least(stepper)
    table = [many_over(told)]
    while index >= table[-1][0]:
        index -= table[-1][0]
        table.append(many_longer(told, table[-1]))
        if not any(table[-1]):
            return None
    return pair_of(row_at(told, table[:-1], index))


def index_of(stepper, left, right):
    """The index of a told pair, in order; raises NotTold with the pair."""
    told = least(stepper)
    if not told.tells(left, right):
        raise NotTold((left, right))
    row = row_of(left, right)
    table = [many_over(told)]
    for _ in row:
        table.append(many_longer(told, table[-1]))
    return sum([many[0] for many in table[:-1]]) + index_of_row(told, table[:-1], row)


def many_over(told):
    """How many rows without signs lead on from each state to an end: one where it is an end itself."""
    ends = ends_of(told)
    return [1 if state in ends else 0 for state in range(len(told.rows))]


def many_longer(told, many):
    """How many rows lead on from each state to an end, where it is known how many with one sign less do."""
    return [sum([many[further] for _, _, further in row]) for row in told.rows]


def row_at(told, table, index):
    """The row with an index among those with one length.

    The table tells for each lesser length, from 0 on, how many rows of this length lead on from each state.
    """
    state = 0
    row = []
    for many in table[::-1]:
        signs, state, index = step_to_row(told.rows[state], many, index)
        row.append(signs)
    return row


def step_to_row(steps, many, index):
    """The signs of the step to the row with an index, the state behind it, and the index among the rows from there."""
    at = 0
    while index >= many[steps[at][2]]:
        index -= many[steps[at][2]]
        at += 1
    left, right, further = steps[at]
    return (left, right), further, index


def index_of_row(told, table, row):
    """How many rows with one length stand ahead of one of them; the table is as in row_at."""
    state = 0
    ahead = 0
    for signs, many in zip(row, table[::-1]):
        ahead += sum([many[further] for left, right, further in told.rows[state] if (left, right) < signs])
        state = told.table[state][signs]
    return ahead
