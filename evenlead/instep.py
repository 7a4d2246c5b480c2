"""In step: from even pacers to steppers that tell the same pairs, and back."""

from evenlead.errors import Uneven
from evenlead.leads import RING, judge
from evenlead.merging import explored, least_parts
from evenlead.pacers import Pacer
from evenlead.parts import text_of
from evenlead.steppers import Stepper, least
from evenlead.words import NO_LETTER

# A place is a state, and whether letters still come on the left and on the right: here none come.
DONE = (0, False, False)


def stepper_of(pacer):
    """The least stepper of the pairs that a pacer tells; raises Uneven with a paper."""
    paper = judge(pacer)
    if paper[0] == RING:
        raise Uneven(paper)
    writes = writes_of(pacer)
    begins = {begin: True for begin in pacer.begins}
    starts = [(settled(place), "", "") for place in writes if place[0] in begins]
    firsts = [node for start in starts for node in readers(start, writes)]
    # The nodes are met by the steps with which they read what was written.
    steps = explored(firsts, lambda node: steps_of_node(node, writes))
    rows, ends = least_parts(firsts, steps, [(DONE, "", "")])
    return Stepper(rows, ends)


def pacer_of(stepper):
    """A pacer that tells the pairs that a stepper tells."""
    # All ways of the least stepper read rows, so they may be gone without a look at the signs ahead.
    told = least(stepper)
    moves = [(state, text_of(left), text_of(right), further) for state, left, right, further in told.steps]
    return Pacer(len(told.rows), (0,), tuple(moves), told.ends)


def moves_by_further(moves):
    """A dict of the moves that lead to each state, as far as some do."""
    entering = {}
    for move in moves:
        entering.setdefault(move[3], []).append(move)
    return entering


def writes_of(pacer):
    """A dict of the places from which ways lead to ends, with tuples (left, right, further place) for their moves.

    They are found from the ends on, as only what comes later tells on which sides letters still come.
    """
    entering = moves_by_further(pacer.moves)
    waiting = [(end, False, False) for end in pacer.ends]
    writes = {place: [] for place in waiting}
    while waiting:
        place = waiting.pop()
        state, on_left, on_right = place
        for ahead, left, right, _ in entering.get(state, []):
            before = (ahead, on_left or left != "", on_right or right != "")
            if before not in writes:
                writes[before] = []
                waiting.append(before)
            writes[before].append((left, right, settled(place)))
    return writes


def settled(place):
    """The place itself, or the one for all states where no letters come any more."""
    return place if place[1] or place[2] else DONE


def has_to_write(node):
    """Whether it depends on a further move what is read next.

    A node is a place with the letters on the left and on the right that are written, but not read yet.
    """
    (_, on_left, on_right), left, right = node
    return (on_left and not left) or (on_right and not right)


def readers(start, writes):
    """The nodes to which moves lead from a node until the next signs are known."""
    met = {start: True}
    waiting = [start]
    found = []
    while waiting:
        node = waiting.pop()
        if not has_to_write(node):
            found.append(node)
            continue
        place, left, right = node
        for word, other, further in writes[place]:
            written = (further, left + word, right + other)
            if written not in met:
                met[written] = True
                waiting.append(written)
    return found


def steps_of_node(node, writes):
    """The steps by which a node reads the next signs; none if everything is read."""
    place, left, right = node
    if not left and not right:
        return []
    signs = (left[:1] or NO_LETTER, right[:1] or NO_LETTER)
    return [(signs, further) for further in readers((place, left[1:], right[1:]), writes)]
