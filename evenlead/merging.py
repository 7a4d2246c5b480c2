"""From places and the steps between them to the least machine that reads the same.

The steps are a dict: for each place a list of tuples (signs, further) of a pair of signs and a place.
"""

from evenlead.graphs import useful_places


def explored(starts, steps_from):
    """The steps of all places that are met from some starts on, where a function gives those of each place."""
    steps = {}
    waiting = list(starts)
    while waiting:
        place = waiting.pop()
        if place not in steps:
            steps[place] = steps_from(place)
            waiting.extend([further for _, further in steps[place]])
    return steps


def least_parts(starts, steps, ends):
    """The rows and ends of the least machine that reads what steps from some starts to some ends read.

    Several steps of a place may have the same signs.
    """
    following = {place: [further for _, further in steps[place]] for place in steps}
    kept = useful_places(starts, following, ends)
    number = {place: at for at, place in enumerate(kept)}
    first = numbered(starts, number)
    if not first:
        return ((),), ()
    kept_steps = [[(signs, number[further]) for signs, further in steps[place] if further in kept] for place in kept]
    rows, ends_of_rows = rows_of_sets(first, kept_steps, numbered(ends, number))
    return merged(rows, ends_of_rows)


def numbered(places, number):
    """The ascending numbers of those places that have one."""
    return tuple(sorted(set([number[place] for place in places if place in number])))


def rows_of_sets(first, steps, ends, most=None):
    """The rows of lists of (signs, further), and the ends, of the machine whose states are sets of places.

    A set is an ascending tuple; the places are the indexes of their steps. State 0 is the first set. Where a number
    is given and there are more sets, it is None.
    """
    sets = [first]
    number = {first: 0}
    rows = []
    while len(rows) < len(sets):
        if most is not None and len(sets) > most:
            return None
        row = []
        for signs, together in steps_of_set(sets[len(rows)], steps):
            if together not in number:
                number[together] = len(sets)
                sets.append(together)
            row.append((signs, number[together]))
        rows.append(row)
    ending = {place: True for place in ends}
    return rows, [at for at, places in enumerate(sets) if any([place in ending for place in places])]


def steps_of_set(places, steps):
    """The steps of a set of places, ascending: for each pair of signs the set to which it leads."""
    found = {}
    for place in places:
        for signs, further in steps[place]:
            found.setdefault(signs, []).append(further)
    return [(signs, tuple(sorted(set(found[signs])))) for signs in sorted(found)]


def merged(rows, ends):
    """The rows and ends with alike states made one, and the states numbered as they are met from state 0 on.

    Each state has to be useful: a step that is not there is told apart from all that are.
    """
    kinds = kinds_of(rows, ends)
    number = {kinds[0]: 0}
    states = [0]
    least_rows = []
    while len(least_rows) < len(states):
        row = []
        for (left, right), further in rows[states[len(least_rows)]]:
            kind = kinds[further]
            if kind not in number:
                number[kind] = len(states)
                states.append(further)
            row.append((left, right, number[kind]))
        least_rows.append(tuple(row))
    return tuple(least_rows), tuple(sorted(set([number[kinds[end]] for end in ends])))


def kinds_of(rows, ends):
    """A number for each state; two have the same one if they read the same up to ends."""
    ending = {end: True for end in ends}
    kinds = [1 if state in ending else 0 for state in range(len(rows))]
    many = 0
    while True:
        # Parted by the kinds of the further states, again and again, until nothing more is parted.
        names = {}
        looks = [(kinds[at], tuple([(signs, kinds[further]) for signs, further in row])) for at, row in enumerate(rows)]
        kinds = [names.setdefault(look, len(names)) for look in looks]
        if len(names) == many:
            return kinds
        many = len(names)
