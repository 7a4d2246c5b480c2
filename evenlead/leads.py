"""Leads: how far ways run ahead on the left or on the right, and whether that has bounds."""

from evenlead.errors import Uneven
from evenlead.graphs import useful_places
from evenlead.parts import is_integer

LEADS = "leads"
RING = "ring"


def useful(pacer):
    """The ascending states to which some way from a begin to an end comes."""
    following = {}
    for move in pacer.moves:
        following.setdefault(move[0], []).append(move[3])
    return tuple(sorted(useful_places(pacer.begins, following, pacer.ends)))


def judge(pacer):
    """A paper that a pacer is even, or one that it is uneven."""
    came, far = places_met(pacer)
    if far is not None:
        return ring_paper(pacer, came, far)
    found = leads_by_state(came)
    return LEADS, tuple([(state, min(found[state]), max(found[state])) for state in sorted(found)])


def judge_holds(pacer, thing):
    """Whether any value is a paper that this pacer is even, or one that it is uneven."""
    if not isinstance(thing, tuple):
        return False
    if len(thing) == 2 and thing[0] == LEADS:
        return bounds_hold(pacer, thing[1])
    return len(thing) == 5 and thing[0] == RING and ring_holds(pacer, thing)


def is_even(pacer):
    """Whether the differences of the pairs that a pacer tells have a bound."""
    return judge(pacer)[0] == LEADS


def leads(pacer, state):
    """The ascending leads of a useful state; raises Uneven with a paper."""
    return tuple(sorted(even_leads(pacer).get(state, [])))


def spread(pacer):
    """The least and the greatest difference of the told pairs, or None; raises Uneven with a paper."""
    found = even_leads(pacer)
    differences = [lead for end in pacer.ends for lead in found.get(end, [])]
    return (min(differences), max(differences)) if differences else None


def even_leads(pacer):
    """A dict of the leads of each useful state of an even pacer; raises Uneven with a paper."""
    came, far = places_met(pacer)
    if far is not None:
        raise Uneven(ring_paper(pacer, came, far))
    return leads_by_state(came)


def gain_of(move):
    """How many letters more a move writes on the left than on the right."""
    return len(move[1]) - len(move[2])


def useful_moves(pacer):
    """A dict of the moves that leave each useful state for a useful one, as tuples (index, gain, further)."""
    leaving = {state: [] for state in useful(pacer)}
    for index, move in enumerate(pacer.moves):
        if move[0] in leaving and move[3] in leaving:
            leaving[move[0]].append((index, gain_of(move), move[3]))
    return leaving


def farthest(leaving):
    """A bound of the leads of all ways that come to no useful state twice."""
    gains = [abs(gain) for state in leaving for _, gain, _ in leaving[state]]
    return (len(leaving) - 1) * max(gains, default=0)


def places_met(pacer):
    """The places (state, lead) of useful states that ways from begins meet, and the first one too far, or None.

    The places are a dict: each is given with the one ahead of it and the index of the move from there, or with
    None. It is too far if each way that comes to it has a ring that changes the lead: the search ends there.
    """
    leaving = useful_moves(pacer)
    bound = farthest(leaving)
    came = {(begin, 0): None for begin in pacer.begins if begin in leaving}
    waiting = list(came)
    at = 0
    while at < len(waiting):
        state, lead = waiting[at]
        for index, gain, further in leaving[state]:
            place = (further, lead + gain)
            if place not in came:
                came[place] = (waiting[at], index)
                waiting.append(place)
                if abs(lead + gain) > bound:
                    return came, place
        at += 1
    return came, None


def leads_by_state(came):
    """A dict of the leads of each state of the places that were met."""
    found = {}
    for state, lead in came:
        found.setdefault(state, []).append(lead)
    return found


def ring_paper(pacer, came, last):
    """The paper that a pacer is uneven, from the way to a place that is too far."""
    places, indexes = way_to(came, last)
    start, stop = ring_between(places)
    begin, _ = places[0]
    state, _ = places[start]
    return RING, begin, tuple(indexes[:start]), tuple(indexes[start:stop]), ways_on(pacer)[state]


def way_to(came, last):
    """The places of the way that came to a place, from a begin on, and the indexes of its moves."""
    places = [last]
    indexes = []
    while came[places[-1]] is not None:
        place, index = came[places[-1]]
        places.append(place)
        indexes.append(index)
    return places[::-1], indexes[::-1]


def ring_between(places):
    """Where a way comes to a state, and where it comes to the same state again with another lead."""
    first = {}
    for at, (state, _) in enumerate(places):
        first.setdefault(state, at)
    rings = [(first[state], at) for at, (state, lead) in enumerate(places) if places[first[state]][1] != lead]
    return rings[0]


def ways_on(pacer):
    """A dict of the states from which ways lead to ends, each with the indexes of the moves of one."""
    ways = {end: () for end in pacer.ends}
    # A way that comes to no state twice has at most as many moves as there are, so as many rounds find all.
    for _ in pacer.moves:
        for index, move in enumerate(pacer.moves):
            if move[3] in ways and move[0] not in ways:
                ways[move[0]] = (index,) + ways[move[3]]
    return ways


def is_bound(thing):
    """Whether any value is a triple (state, low, high) of integers, low at most high."""
    if not isinstance(thing, tuple) or len(thing) != 3 or not all([is_integer(part) for part in thing]):
        return False
    return thing[1] <= thing[2]


def bounds_hold(pacer, bounds):
    """Whether any value is the bounds of a paper that a pacer is even."""
    if not isinstance(bounds, tuple) or not all([is_bound(part) for part in bounds]):
        return False
    leaving = useful_moves(pacer)
    if [part[0] for part in bounds] != list(leaving):
        return False
    low = {part[0]: part[1] for part in bounds}
    high = {part[0]: part[2] for part in bounds}
    return all([low[begin] <= 0 <= high[begin] for begin in pacer.begins if begin in leaving]) and all(
        [
            low[further] <= low[state] + gain and high[further] >= high[state] + gain
            for state in leaving
            for _, gain, further in leaving[state]
        ]
    )


def ring_holds(pacer, paper):
    """Whether a tuple of five parts, the first one as it should be, is a paper that a pacer is uneven."""
    _, begin, there, ring, on = paper
    if not is_integer(begin) or begin not in pacer.begins:
        return False
    start = state_behind(pacer, begin, there)
    if start is None or state_behind(pacer, start, ring) != start:
        return False
    return sum([gain_of(pacer.moves[index]) for index in ring]) != 0 and state_behind(pacer, start, on) in pacer.ends


def state_behind(pacer, state, way):
    """The state to which a way leads from a state, or None for any value that is no way from there."""
    if not isinstance(way, tuple):
        return None
    for index in way:
        if not is_integer(index) or not 0 <= index < len(pacer.moves) or pacer.moves[index][0] != state:
            return None
        state = pacer.moves[index][3]
    return state
