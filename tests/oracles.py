"""What the document says, written out plainly and slowly, to compare the program with."""

import itertools
import random

from evenlead.errors import BadStepper
from evenlead.pacers import Pacer
from evenlead.steppers import Stepper


def texts_of(letters, most):
    """All texts of some letters with at most so many letters."""
    return ["".join(text) for many in range(most + 1) for text in itertools.product(letters, repeat=many)]


def signs_of(left, right):
    """The row of a pair."""
    return tuple(itertools.zip_longest(left, right, fillvalue="-"))


def state_after(rows, signs):
    """The state to which a tuple of pairs of signs leads from state 0 on, or None."""
    state = 0
    for left, right in signs:
        steps = [step for step in rows[state] if step[:2] == (left, right)]
        if not steps:
            return None
        state = steps[0][2]
    return state


def told_by_rows(rows, ends, texts):
    """The pairs of some texts that a stepper of these parts tells."""
    return {(left, right) for left in texts for right in texts if state_after(rows, signs_of(left, right)) in ends}


def told_by_pacer(pacer, texts):
    """The pairs of some texts that a pacer tells."""
    return {(left, right) for left in texts for right in texts if pacer.tells(left, right)}


def states_within(starts, edges):
    """All states to which edges (state, further) lead from some starts."""
    found = set(starts)
    while True:
        more = {further for state, further in edges if state in found} - found
        if not more:
            return found
        found |= more


def useful_states(pacer):
    edges = {(move[0], move[3]) for move in pacer.moves}
    ahead = states_within(pacer.begins, edges)
    return sorted(ahead & states_within(pacer.ends, {(further, state) for state, further in edges}))


def gain(pacer, indexes):
    left, right = pacer.spelled(indexes)
    return len(left) - len(right)


def moves_of_useful(pacer):
    states = useful_states(pacer)
    return [at for at, move in enumerate(pacer.moves) if move[0] in states and move[3] in states]


def simple_rings(pacer):
    """The indexes of the moves of all rings of useful states that come to no other state twice."""
    kept = moves_of_useful(pacer)
    rings = []
    waiting = [(at,) for at in kept]
    while waiting:
        way = waiting.pop()
        states = [pacer.moves[at][0] for at in way]
        last = pacer.moves[way[-1]][3]
        if last == states[0]:
            rings.append(way)
        elif last not in states:
            waiting.extend((*way, at) for at in kept if pacer.moves[at][0] == last)
    return rings


def has_uneven_ring(pacer):
    return any(gain(pacer, ring) != 0 for ring in simple_rings(pacer))


def leads_of_even(pacer):
    """The leads of each useful state of an even pacer: those of ways with fewer moves than there are states."""
    states = useful_states(pacer)
    places = {(begin, 0) for begin in pacer.begins if begin in states}
    for _ in range(len(states)):
        places |= {
            (pacer.moves[at][3], lead + gain(pacer, (at,)))
            for at in moves_of_useful(pacer)
            for state, lead in places
            if pacer.moves[at][0] == state
        }
    return {state: tuple(sorted(lead for other, lead in places if other == state)) for state in states}


def goes(pacer, state, indexes):
    """The state to which a way leads, or None if the indexes are no way from this state."""
    for at in indexes:
        if pacer.moves[at][0] != state:
            return None
        state = pacer.moves[at][3]
    return state


def difference_has_no_bound(rows, ends):
    """Whether some told pair has a difference so great that it comes by a ring of gaps."""
    pairs = {(state, step[2]) for state, row in enumerate(rows) for step in row if "-" not in step[:2]}
    for side in (0, 1):
        gaps = {(state, step[2]) for state, row in enumerate(rows) for step in row if step[side] == "-"}
        states = states_within([0], pairs)
        for many in range(2 * len(rows) + 1):
            if many >= len(rows) and states & set(ends):
                return True
            states = {further for state, further in gaps if state in states}
    return False


def is_least(stepper):
    """Whether a stepper is the least one of the pairs that it tells."""
    if not told_something(stepper):
        return (stepper.rows, stepper.ends) == (((),), ())
    in_order = numbers_as_met(stepper) == list(range(len(stepper.rows)))
    return in_order and only_useful(stepper) and only_rows(stepper) and all_told_apart(stepper)


def edges_of(stepper):
    return {(state, step[2]) for state, row in enumerate(stepper.rows) for step in row}


def told_something(stepper):
    return bool(states_within([0], edges_of(stepper)) & set(stepper.ends))


def only_useful(stepper):
    every = set(range(len(stepper.rows)))
    back = {(further, state) for state, further in edges_of(stepper)}
    return states_within([0], edges_of(stepper)) == every == states_within(stepper.ends, back)


def only_rows(stepper):
    """Whether all that leads to an end is rows, where each state leads to an end."""
    places = {(0, "")}
    while True:
        more = set()
        for state, ended in places:
            for left, right, further in stepper.rows[state]:
                side = "right" if right == "-" else "left" if left == "-" else ""
                if ended and side != ended:
                    return False
                more.add((further, side))
        if more <= places:
            return True
        places |= more


def all_told_apart(stepper):
    """Whether from any two states something reads on to an end from one of them alone."""
    size = len(stepper.rows)
    steps = [{step[:2]: step[2] for step in row} for row in stepper.rows]
    apart = {
        (one, other)
        for one in range(size)
        for other in range(size)
        if (one in stepper.ends) != (other in stepper.ends) or steps[one].keys() != steps[other].keys()
    }
    while True:
        more = {
            (one, other)
            for one in range(size)
            for other in range(size)
            if any((steps[one][signs], steps[other].get(signs)) in apart for signs in steps[one])
        }
        if more <= apart:
            return all((one, other) in apart for one in range(size) for other in range(size) if one != other)
        apart |= more


def numbers_as_met(stepper):
    """The states in the order in which they are met."""
    met = [0]
    for at in range(len(stepper.rows)):
        for _, _, further in stepper.rows[met[at]] if at < len(met) else ():
            if further not in met:
                met.append(further)
    return met


def drawn_rows(draw, letters="ab"):
    """The rows and ends of a stepper, the differences with a bound or not."""
    size = draw.randint(1, 4)
    pairs = [pair for pair in itertools.product(letters + "-", repeat=2) if pair != ("-", "-")]
    share = draw.choice((0.15, 0.3, 0.5))
    rows = tuple(
        tuple(sorted((*pair, draw.randrange(size)) for pair in pairs if draw.random() < share)) for _ in range(size)
    )
    return rows, tuple(state for state in range(size) if draw.random() < 0.5)


def drawn_steppers(many):
    """Some steppers, the same ones each time."""
    draw = random.Random(8)
    steppers = []
    while len(steppers) < many:
        rows, ends = drawn_rows(draw)
        try:
            steppers.append(Stepper(rows, ends))
        except BadStepper:
            continue
    return steppers


def drawn_even_pacers(many):
    """Some even pacers, the same ones each time: the states have levels, and each move changes the lead likewise."""
    draw = random.Random(7)
    words = texts_of("ab", 2)
    pacers = []
    while len(pacers) < many:
        size = draw.randint(1, 4)
        levels = [0, *(draw.randint(-2, 2) for _ in range(size - 1))]
        moves = []
        for _ in range(draw.randint(2, 8)):
            state, further = draw.randrange(size), draw.randrange(size)
            rise = levels[further] - levels[state]
            fitting = [pair for pair in itertools.product(words, repeat=2) if len(pair[0]) - len(pair[1]) == rise]
            if fitting:
                moves.append((state, *draw.choice(fitting), further))
        begins = tuple(state for state in range(size) if state == 0 or draw.random() < 0.2)
        ends = tuple(state for state in range(size) if state == size - 1 or draw.random() < 0.3)
        pacers.append(Pacer(size, begins, tuple(moves), ends))
    return pacers


def told_pairs(stepper, most_left, most_right):
    """The told pairs of texts of at most so many letters, row by row from the definition."""
    rows = {(0, "", "")}
    pairs = set()
    for many in range(max(most_left, most_right) + 1):
        pairs |= {(left, right) for state, left, right in rows if state in stepper.ends}
        rows = {
            (further, (left + sign).strip("-"), (right + other).strip("-"))
            for state, left, right in rows
            for sign, other, further in stepper.rows[state]
            if (sign == "-" or len(left) == many < most_left) and (other == "-" or len(right) == many < most_right)
        }
    return pairs


def in_order(pairs):
    """Pairs with shorter rows first, those with rows of one length as their rows are sorted."""
    return sorted(pairs, key=lambda pair: (len(signs_of(*pair)), signs_of(*pair)))


def drawn_gapped_steppers(many, letters="ab", seed=21):
    """Some steppers with gaps on the left, on the right or on both, the same ones each time.

    The states with letters on both sides stand first, then those behind gaps on the left, then those on the right.
    """
    draw = random.Random(seed)
    return [gapped_stepper(draw, letters) for _ in range(many)]


def gapped_stepper(draw, letters):
    size, on_left, on_right = draw.randint(1, 3), draw.choice((0, 1, 2, 2)), draw.choice((0, 1, 2, 2))
    lefts = range(size, size + on_left)
    rights = range(size + on_left, size + on_left + on_right)
    pairs = [(*pair, range(size)) for pair in itertools.product(letters, repeat=2)]
    gaps = [("-", letter, lefts) for letter in letters] + [(letter, "-", rights) for letter in letters]
    share = draw.choice((0.3, 0.4, 0.6))
    rows = [pairs + gaps for _ in range(size)]
    rows += [[("-", letter, lefts[at + 1 :]) for letter in letters] for at in range(on_left)]
    rows += [[(letter, "-", rights[at + 1 :]) for letter in letters] for at in range(on_right)]
    drawn = tuple(
        tuple(sorted((*signs, draw.choice(states)) for *signs, states in row if states and draw.random() < share))
        for row in rows
    )
    return Stepper(drawn, tuple(state for state in range(len(rows)) if draw.random() < 0.5))
