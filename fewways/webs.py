"""Webs: places and ties between them, the parts of a web, and a web without some places."""

from fewways.errors import NoPlace, NoWeb

MOST_PLACES = 60


def is_whole(thing):
    """Tell of anything whether it is a whole number; True and False are none."""
    return isinstance(thing, int) and not isinstance(thing, bool)


def is_many(thing):
    """Tell of anything whether a web can have so many places."""
    return is_whole(thing) and 0 <= thing <= MOST_PLACES


def is_place(many, thing):
    """Tell of anything whether it is one of so many places."""
    return is_whole(thing) and 0 <= thing < many


def is_pair(many, thing):
    """Tell of anything whether it is a tuple of two unlike ones of so many places."""
    if not isinstance(thing, tuple) or len(thing) != 2:
        return False
    return is_place(many, thing[0]) and is_place(many, thing[1]) and thing[0] != thing[1]


def is_rising(things):
    """Tell whether each of these things is less than the next one; they must be such as can be compared."""
    for at in range(1, len(things)):
        if not things[at - 1] < things[at]:
            return False
    return True


def are_rising_pairs(many, thing):
    """Tell of anything whether it is a rising tuple of pairs of unlike ones of so many places."""
    if not isinstance(thing, tuple):
        return False
    for pair in thing:
        if not is_pair(many, pair):
            return False
    return is_rising(thing)


def are_ties(many, thing):
    """Tell of anything whether it is a rising tuple of ties between some of so many places."""
    return are_rising_pairs(many, thing) and all([low < high for low, high in thing])


def are_places(many, thing):
    """Tell of anything whether it is a rising tuple of some of so many places."""
    if not isinstance(thing, tuple):
        return False
    for place in thing:
        if not is_place(many, place):
            return False
    return is_rising(thing)


def each_once(many, rows):
    """Tell whether each of so many places, and nothing else, is just once in these tuples of places."""
    return sorted([place for row in rows for place in row]) == list(range(many))


def is_web(thing):
    """Tell of anything whether it is a web."""
    if not isinstance(thing, tuple) or len(thing) != 2:
        return False
    return is_many(thing[0]) and are_ties(thing[0], thing[1])


def check_web(thing):
    """Refuse what is no web."""
    if not is_web(thing):
        raise NoWeb("this is no web")


def check_places(many, thing):
    """Refuse what is no rising tuple of some of so many places."""
    if not are_places(many, thing):
        raise NoPlace("these are no places of the web")


def tie_of(one, other):
    """The tie between two unlike places, either one ahead."""
    return min(one, other), max(one, other)


def web_of(many, pairs):
    """The web of so many places and of a list of pairs of them, some perhaps turned or twice."""
    if not is_many(many):
        raise NoWeb("no web has so many places")
    if not isinstance(pairs, list):
        raise NoWeb("the pairs are no list")
    for pair in pairs:
        if not is_pair(many, pair):
            raise NoWeb("a pair is no tuple of two unlike places")
    return many, tuple(sorted({tie_of(one, other) for one, other in pairs}))


def all_tied(web):
    """For each place of a web, by its number, the rising list of the places that are tied to it."""
    many, ties = web
    near = [[] for place in range(many)]
    # Ties rise: those in which a place is the greater one come ahead, so each list rises of itself.
    for low, high in ties:
        near[low].append(high)
        near[high].append(low)
    return near


def tied(web, place):
    """The places that are tied to a place, rising."""
    check_web(web)
    if not is_place(web[0], place):
        raise NoPlace("this is no place of the web")
    return tuple(all_tied(web)[place])


def part_with(near, start):
    """All places that can be come to from a place by ties, itself too, rising."""
    part = [start]
    at = 0
    while at < len(part):
        place = part[at]
        for other in near[place]:
            if other not in part:
                part.append(other)
        at += 1
    return tuple(sorted(part))


def parts_among(near, places):
    """The parts that rising places make, by the places that are tied to each of them: a list of rising tuples."""
    found = []
    seen = set()
    for place in places:
        if place not in seen:
            part = part_with(near, place)
            found.append(part)
            for other in part:
                seen.add(other)
    return found


def parts(web):
    """The parts of a web, a list of rising tuples, by their least places."""
    check_web(web)
    return parts_among(all_tied(web), list(range(web[0])))


def without(web, places):
    """The web without some places, the other ones numbered anew in their order."""
    check_web(web)
    many, ties = web
    check_places(many, places)
    kept = [place for place in range(many) if place not in places]
    anew = {place: at for at, place in enumerate(kept)}
    # Numbers keep their order, so what rose still rises.
    return len(kept), tuple([(anew[low], anew[high]) for low, high in ties if low in anew and high in anew])
