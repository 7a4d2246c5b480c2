"""Belts: letters that come on two sides, in any order."""

from evenlead.errors import BadLetter, NothingToUndo
from evenlead.steppers import least
from evenlead.words import NO_LETTER, is_letter, row_of

LEFT = 0
RIGHT = 1


class Belt:
    """A stepper, and the letters that came on both sides."""

    def __init__(self, stepper):
        self.stepper = stepper
        self.told = least(stepper)
        self.taken = []

    def take_left(self, letter):
        """Puts a letter behind those on the left; whether what came can go on."""
        if not is_letter(letter):
            raise BadLetter(letter)
        self.taken.append((LEFT, letter))
        return self.can_go_on

    def take_right(self, letter):
        """Puts a letter behind those on the right; whether what came can go on."""
        if not is_letter(letter):
            raise BadLetter(letter)
        self.taken.append((RIGHT, letter))
        return self.can_go_on

    def undo(self):
        """Takes back the last letter, on whichever side it came."""
        if not self.taken:
            raise NothingToUndo()
        self.taken.pop()

    @property
    def came(self):
        """The pair of what came on the left and on the right."""
        return letters_on(LEFT, self.taken), letters_on(RIGHT, self.taken)

    @property
    def can_go_on(self):
        """Whether some told pair begins with what came, on both sides."""
        left, right = self.came
        return can_follow(self.told, left, right)

    @property
    def is_told(self):
        """Whether just what came is told."""
        left, right = self.came
        return any([state in self.told.ends for state in states_after(self.told, row_of(left, right))])

    @property
    def next_left(self):
        """The letters, ascending, with which it can go on if they come next on the left."""
        left, right = self.came
        letters = letters_of([sign for _, sign, _, _ in self.told.steps])
        return "".join([letter for letter in letters if can_follow(self.told, left + letter, right)])

    @property
    def next_right(self):
        """The letters, ascending, with which it can go on if they come next on the right."""
        left, right = self.came
        letters = letters_of([sign for _, _, sign, _ in self.told.steps])
        return "".join([letter for letter in letters if can_follow(self.told, left, right + letter)])

    @property
    def held(self):
        """How many more letters came on one side than on the other one."""
        left, right = self.came
        return abs(len(left) - len(right))

    def __len__(self):
        return len(self.taken)


def letters_on(side, taken):
    """The text of the letters that were taken on one side."""
    return "".join([letter for on, letter in taken if on == side])


def letters_of(signs):
    """The letters among some signs, ascending."""
    return [sign for sign in sorted(set(signs)) if sign != NO_LETTER]


def can_follow(told, left, right):
    """Whether a least stepper tells a pair that begins with these texts."""
    return len(states_after(told, columns_of(left, right))) > 0


def columns_of(left, right):
    """The columns of a row, as far as letters came: the empty text stands in the place of a sign that can be any."""
    return [(left[at : at + 1], right[at : at + 1]) for at in range(max(len(left), len(right)))]


def states_after(told, columns):
    """The states from which ends can be reached, to which rows with these columns lead in a least stepper."""
    # All states of a least stepper lead to ends, unless it tells nothing.
    states = [0] if told.ends else []
    for left, right in columns:
        states = further_states(told, states, left, right)
    return states


def further_states(told, states, left, right):
    """The states to which steps from some states lead that have these signs, or any one where it is the empty text."""
    steps = [step for state in states for step in told.rows[state]]
    return sorted(set([further for sign, other, further in steps if left in ("", sign) and right in ("", other)]))
