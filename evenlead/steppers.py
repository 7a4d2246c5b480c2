"""Steppers: machines that read the row of a pair, letter beside letter."""

from evenlead.errors import BadStepper, BadText
from evenlead.graphs import has_ring, useful_places
from evenlead.merging import explored, least_parts
from evenlead.parts import (
    is_state,
    is_tuple_of_states,
    line_of,
    lines_of,
    number_of,
    size_at,
    states_at,
    words_at,
)
from evenlead.words import NO_LETTER, is_pair_of_signs, row_of

FIRST_STEP_LINE = 2

# Which texts still had letters: from one that has ended on, a row has letters of the other one only.
BOTH_SIDES = 0
LEFT_SIDE = 1
RIGHT_SIDE = 2
# State 0, where neither text has ended.
START = (0, 0)


class Stepper:
    """A stepper: the steps of each state, and the ends."""

    def __init__(self, rows, ends):
        if not is_tuple_of_rows(rows):
            raise BadStepper("rows")
        if not is_tuple_of_states(ends, len(rows)):
            raise BadStepper("ends")
        if not has_bound(rows, ends):
            raise BadStepper("differences")
        self.rows = rows
        self.ends = ends
        self.steps = tuple([(state, *step) for state, row in enumerate(rows) for step in row])
        self.table = tuple([{(left, right): further for left, right, further in row} for row in rows])

    def tells(self, left, right):
        """Whether the row of this pair leads from state 0 to an end."""
        state = 0
        for signs in row_of(left, right):
            if signs not in self.table[state]:
                return False
            state = self.table[state][signs]
        return state in self.ends

    def __len__(self):
        return len(self.rows)

    def __iter__(self):
        return iter(self.steps)

    def __eq__(self, other):
        return isinstance(other, Stepper) and self.rows == other.rows and self.ends == other.ends

    def __str__(self):
        return "\n".join(text_lines(self))

    @classmethod
    def read(cls, text):
        """The stepper of which any value is the text."""
        lines = lines_of(text)
        size = size_at(lines, 0, "stepper")
        ends = states_at(lines, 1, "ends", size)
        rows = rows_at(lines, FIRST_STEP_LINE, size)
        return cls(rows, ends)


def least(stepper):
    """The least stepper of the pairs that a stepper tells."""
    steps = steps_in_rows(stepper.rows)
    rows, ends = least_parts([START], steps, places_of(stepper.ends, steps))
    return Stepper(rows, ends)


def is_step(thing, size):
    """Whether any value is a step to one of so many states."""
    if not isinstance(thing, tuple) or len(thing) != 3:
        return False
    left, right, further = thing
    if not is_pair_of_signs((left, right)) or (left, right) == (NO_LETTER, NO_LETTER):
        return False
    return is_state(further, size)


def is_row_of_steps(thing, size):
    """Whether any value is the steps of a state, ascending, no two with the same signs."""
    if not isinstance(thing, tuple) or not all([is_step(part, size) for part in thing]):
        return False
    return all([low[:2] < high[:2] for low, high in zip(thing, thing[1:])])


def is_tuple_of_rows(thing):
    """Whether any value is a tuple of the steps of one or more states."""
    return isinstance(thing, tuple) and len(thing) >= 1 and all([is_row_of_steps(part, len(thing)) for part in thing])


def side_of(left, right):
    """Which texts have a letter where a row has these signs."""
    if right == NO_LETTER:
        return LEFT_SIDE
    return RIGHT_SIDE if left == NO_LETTER else BOTH_SIDES


def steps_in_rows(rows):
    """A dict of the places (state, side) that rows of pairs come to, with the steps that they can take from there.

    The side tells which texts have not ended there; the steps are lists of tuples (signs, further place).
    """
    return explored([START], lambda place: steps_at(rows[place[0]], place[1]))


def steps_at(row, side):
    """The steps of a state that rows of pairs can take where this side has not ended."""
    steps = [((left, right), (further, side_of(left, right))) for left, right, further in row]
    return [(signs, further) for signs, further in steps if side == BOTH_SIDES or further[1] == side]


def places_of(ends, steps):
    """The places that rows of pairs come to and whose states are ends."""
    ending = {end: True for end in ends}
    return [place for place in steps if place[0] in ending]


def has_bound(rows, ends):
    """Whether the differences of the pairs that these rows and ends tell have a bound."""
    steps = steps_in_rows(rows)
    following = {place: [further for _, further in steps[place]] for place in steps}
    kept = useful_places([START], following, places_of(ends, steps))
    # Only gaps change the difference, and each one in the same direction, so it is rings of gaps that matter.
    gaps = [place for place in kept if place[1] != BOTH_SIDES]
    return not has_ring({place: [further for further in following[place] if further in kept] for place in gaps})


def text_lines(stepper):
    """The lines of the text of a stepper."""
    steps = [f"step {state} {left} {right} {further}" for state, left, right, further in stepper.steps]
    return [f"stepper {len(stepper.rows)}", line_of("ends", stepper.ends), *steps]


def rows_at(lines, first, size):
    """The steps of so many states that the lines from an index on tell."""
    rows = [[] for _ in range(size)]
    last = ()
    for at in range(first, len(lines)):
        state, step = step_at(lines, at, size)
        signs = (state, step[0], step[1])
        if signs <= last:
            raise BadText(at + 1)
        last = signs
        rows[state].append(step)
    return tuple([tuple(row) for row in rows])


def step_at(lines, at, size):
    """The state and its step to one of so many states that a line tells."""
    words = words_at(lines, at, "step")
    if len(words) != 4:
        raise BadText(at + 1)
    state = number_of(words[0])
    step = (words[1], words[2], number_of(words[3]))
    if not is_state(state, size) or not is_step(step, size):
        raise BadText(at + 1)
    return state, step
