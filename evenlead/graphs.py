"""Places that follow one another: a dict gives the list of those that follow each place."""


def reached(starts, following):
    """A dict of all places to which some places lead, these themselves with them."""
    met = {place: True for place in starts}
    waiting = list(met)
    while waiting:
        place = waiting.pop()
        for further in following.get(place, []):
            if further not in met:
                met[further] = True
                waiting.append(further)
    return met


def turned_about(following):
    """The places that stand ahead of each place, as far as some do."""
    ahead = {}
    for place in following:
        for further in following[place]:
            ahead.setdefault(further, []).append(place)
    return ahead


def useful_places(starts, following, ends):
    """A dict of the places to which some starts lead, and that lead to some ends."""
    leading = reached(ends, turned_about(following))
    return {place: True for place in reached(starts, following) if place in leading}


def has_ring(following):
    """Whether some place leads back to itself; the dict has an entry for each place."""
    many = {place: 0 for place in following}
    for place in following:
        for further in following[place]:
            many[further] += 1
    waiting = [place for place in following if many[place] == 0]
    left = len(following)
    while waiting:
        place = waiting.pop()
        left -= 1
        for further in following[place]:
            many[further] -= 1
            if many[further] == 0:
                waiting.append(further)
    # What is never free of places ahead of it stands on a ring, or behind one.
    return left > 0
