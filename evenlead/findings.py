"""Findings: tuples that say something of pacers and steppers, which are told by their texts."""

from evenlead.answers import first_answers
from evenlead.comparing import is_alike, parting
from evenlead.counting import how_many
from evenlead.errors import BadStepper, BadText, Uneven
from evenlead.leads import LEADS, RING, judge_holds, spread
from evenlead.pacers import Pacer
from evenlead.parts import is_integer
from evenlead.steppers import Stepper
from evenlead.words import is_text

# Nothing is promised of lengths beyond 60, and to count the pairs with a very great one takes too long.
FARTHEST_LENGTH = 1000


def pacer_of_text(text):
    """The pacer of which any value is the text, or None."""
    try:
        return Pacer.read(text)
    except BadText:
        return None


def stepper_of_text(text):
    """The stepper of which any value is the text, or None."""
    try:
        return Stepper.read(text)
    except (BadText, BadStepper):
        return None


def told_holds(text, left, right):
    """Whether a pacer tells a pair."""
    pacer = pacer_of_text(text)
    return pacer is not None and is_text(left) and is_text(right) and pacer.tells(left, right)


def even_holds(text, bounds):
    """Whether the bounds show that a pacer is even."""
    pacer = pacer_of_text(text)
    return pacer is not None and judge_holds(pacer, (LEADS, bounds))


def uneven_holds(text, begin, there, ring, on):
    """Whether the ways show that a pacer is uneven."""
    pacer = pacer_of_text(text)
    return pacer is not None and judge_holds(pacer, (RING, begin, there, ring, on))


def spread_holds(text, low, high):
    """Whether a pacer is even and these are the least and the greatest difference of the pairs that it tells."""
    pacer = pacer_of_text(text)
    if pacer is None or not is_integer(low) or not is_integer(high):
        return False
    try:
        return spread(pacer) == (low, high)
    except Uneven:
        return False


def alike_holds(text, other):
    """Whether two steppers tell the same pairs."""
    first, second = stepper_of_text(text), stepper_of_text(other)
    return first is not None and second is not None and is_alike(first, second)


def parting_holds(text, other, left, right):
    """Whether this is the first pair that just one of two steppers tells."""
    first, second = stepper_of_text(text), stepper_of_text(other)
    return first is not None and second is not None and parting(first, second) == (left, right)


def answers_hold(text, left, found):
    """Whether these are all answers of a text, ascending."""
    stepper = stepper_of_text(text)
    if stepper is None or not is_text(left) or not isinstance(found, tuple):
        return False
    # One more shows that there are too many: all of them can be very many.
    return tuple(first_answers(stepper, left, len(found) + 1)) == found


def many_holds(text, length, number):
    """Whether a stepper tells so many pairs with a length."""
    stepper = stepper_of_text(text)
    if stepper is None or not is_integer(length) or not is_integer(number):
        return False
    return 0 <= length <= FARTHEST_LENGTH and how_many(stepper, length) == number


# How many parts the findings of each kind have behind the first one, and what tells whether they hold.
SIZES = {"told": 3, "even": 2, "uneven": 5, "spread": 3, "alike": 2, "parting": 4, "answers": 3, "many": 3}
CHECKS = {
    "told": told_holds,
    "even": even_holds,
    "uneven": uneven_holds,
    "spread": spread_holds,
    "alike": alike_holds,
    "parting": parting_holds,
    "answers": answers_hold,
    "many": many_holds,
}


def finding_holds(thing):
    """Whether any value is a finding that holds."""
    if not isinstance(thing, tuple) or len(thing) == 0:
        return False
    kind = thing[0]
    parts = thing[1:]
    if not isinstance(kind, str) or kind not in CHECKS or len(parts) != SIZES[kind]:
        return False
    check = CHECKS[kind]
    return check(*parts)
