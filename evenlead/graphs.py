"""Places that follow one another: a dict gives the list of those that follow each place."""


def reached(starts, following):
    """A dict of all places to which some places lead, these themselves with them."""
    met = {place: True for place in starts}
    waiting = list(met)
    while waiting:
        place = waiting.pop()
        for further in following.get(place, []):
            if further not in met:
                met[further] = True
                waiting.append(further)
    return met


def turned_about(following):
    """The places that stand ahead of each place, as far as some do."""
    ahead = {}
    for place in following:
        for further in following[place]:
            ahead.setdefault(further, []).append(place)
    return ahead


def useful_places(starts, following, ends):
    """A dict of the places to which some starts lead, and that lead to some ends."""
    leading = reached(ends, turned_about(following))
    return {place: True for place in reached(starts, following) if place in leading}


def has_ring(following):
    """Whether some place leads back to itself; the dict has an entry for each place."""
    many = {place: 0 for place in following}
    for place in following:
        for further in following[place]:
            many[further] += 1
    waiting = [place for place in following if many[place] == 0]
    left = len(following)
    while waiting:
        place = waiting.pop()
        left -= 1
        for further in following[place]:
            many[further] -= 1
            if many[further] == 0:
                waiting.append(further)
    # What is never free of places ahead of it stands on a ring, or behind one.
    return left > 0


def first_way(start, steps_from, is_end):
    """The signs of the first way from a place to an end, or None: shorter ones come first, those of one length sorted.

    A function gives for each place tuples (sign, further), another one whether it is an end. Several steps of a
    place may have the same sign, so places to which the same signs lead are looked at together.
    """
    met = {start: True}
    groups = [[start]]
    came = [None]
    at = 0
    while at < len(groups):
        if any([is_end(place) for place in groups[at]]):
            return signs_to(came, at)
        found = {}
        for place in groups[at]:
            for sign, further in steps_from(place):
                found.setdefault(sign, {})[further] = True
        for sign in sorted(found):
            group = [place for place in found[sign] if place not in met]
            if group:
                met.update({place: True for place in group})
                groups.append(group)
                came.append((at, sign))
        at += 1
    return None


def signs_to(came, at):
    """The signs that lead to a group, where each but the first one comes from another one by a sign."""
    signs = []
    while came[at] is not None:
        at, sign = came[at]
        signs.append(sign)
    return signs[::-1]
