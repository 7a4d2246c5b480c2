"""Machines that read the rows of the pairs that steppers tell.

A machine is a tuple (starts, steps, ends): a list of places, a dict that gives each place a list of tuples (signs,
further place), and a dict of places. Several steps of a place may have the same signs. All that its steps read from a
start to an end is the row of a told pair.
"""

from evenlead.merging import explored, least_parts, rows_of_sets
from evenlead.pacers import Pacer
from evenlead.parts import text_of
from evenlead.steppers import Stepper, least

# State 0 of both of two steppers that are read together.
BOTH_STARTS = (0, 0)

# Whether the one and whether the other one of two steppers tells a pair.
TOLD_BY_BOTH = (True, True)
TOLD_BY_ONE = (True, False)
TOLD_BY_OTHER = (False, True)


def stepper_of_machine(starts, steps, ends):
    """The least stepper of the pairs whose rows a machine reads."""
    rows, ends_of_rows = least_parts(starts, steps, ends)
    return Stepper(rows, ends_of_rows)


def machine_of(stepper):
    """The least stepper of the told pairs as a machine: no two steps of a place have the same signs."""
    told = least(stepper)
    return [0], {state: list(table.items()) for state, table in enumerate(told.table)}, ends_of(told)


def ends_of(stepper):
    """A dict of the ends of a stepper."""
    return {end: True for end in stepper.ends}


def slim_machine(stepper):
    """A machine with few places: the least stepper, or the least one that reads rows from behind, turned round.

    Where the states of a least stepper stand for sets of other ones, sets of them can be very many, and nearly all of
    them alike; the least one from behind then mostly has fewer states.
    """
    starts, steps, ends = machine_of(stepper)
    from_behind = rows_of_sets(tuple(ends), turned_round(steps), starts, len(steps) - 1)
    if from_behind is None:
        return starts, steps, ends
    rows, last = from_behind
    return last, turned_round({place: row for place, row in enumerate(rows)}), {0: True}


def turned_round(steps):
    """The steps the other way round."""
    ahead = {place: [] for place in steps}
    for place in steps:
        for signs, further in steps[place]:
            ahead[further].append((signs, place))
    return ahead


def slim_pacer(stepper):
    """A pacer that tells the same pairs: its moves are the steps of a machine with few places."""
    starts, steps, ends = slim_machine(stepper)
    moves = [
        (place, text_of(left), text_of(right), further)
        for place in steps
        for (left, right), further in steps[place]
    ]
    return Pacer(len(steps), tuple(starts), tuple(moves), tuple(ends))


def steps_together(one, other, place):
    """The steps of two least steppers that read the same signs.

    A place is a pair of states, None in the place of a state if its stepper had no step with the signs that were read.
    """
    state, beside = place
    first = one.table[state] if state is not None else {}
    second = other.table[beside] if beside is not None else {}
    return [(signs, (first.get(signs), second.get(signs))) for signs in {**first, **second}]


def who_tells(ends, other_ends, place):
    """Whether the states of a place are among the ends of the one and of the other one of two steppers."""
    state, beside = place
    return state in ends, beside in other_ends


def told_together(one, other, kinds):
    """The least stepper of the pairs that both or just one of two steppers tell, as some kinds say."""
    first, second = least(one), least(other)
    ends, other_ends = ends_of(first), ends_of(second)
    steps = explored([BOTH_STARTS], lambda place: steps_together(first, second, place))
    told = {place: True for place in steps if who_tells(ends, other_ends, place) in kinds}
    return stepper_of_machine([BOTH_STARTS], steps, told)
