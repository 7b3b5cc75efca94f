"""Ways of a web, and partings of a web to ways."""

from fewways.errors import NoParting, NoWay
from fewways.webs import all_tied, are_ties, check_web, each_once, is_place, is_rising, parts, tie_of


def goes_along(near, thing):
    """Tell of anything whether it is a way, by the lists of the places that are tied to each place."""
    if not isinstance(thing, tuple) or len(thing) == 0:
        return False
    for place in thing:
        if not is_place(len(near), place):
            return False
    if len(set(thing)) != len(thing):
        return False
    for at in range(1, len(thing)):
        if thing[at] not in near[thing[at - 1]]:
            return False
    return True


def goes_round(near, thing):
    """Tell of anything whether it is a way that begins at its least place and closes a ring, by the same lists."""
    return goes_along(near, thing) and thing[0] == min(thing) and thing[0] in near[thing[-1]]


def is_wide(near, thing):
    """Tell of anything whether it is a wide ring, by the same lists."""
    # Where the second place is less than the last one, these are two, and with the first one three.
    return goes_round(near, thing) and thing[1] < thing[-1]


def all_go(near, thing, goes):
    """Tell of anything whether it is a rising tuple of things all of which go so, by the same lists."""
    if not isinstance(thing, tuple):
        return False
    for row in thing:
        if not goes(near, row):
            return False
    return is_rising(thing)


def is_way(web, thing):
    """Tell of anything whether it is a way of a web."""
    check_web(web)
    return goes_along(all_tied(web), thing)


def lesser_about(way):
    """A way the lesser way about."""
    return min(way, way[::-1])


def written(web, way):
    """A way of a web as it is written."""
    if not is_way(web, way):
        raise NoWay("this is no way of the web")
    return lesser_about(way)


def is_parting(web, thing):
    """Tell of anything whether it is a parting of a web."""
    check_web(web)
    if not isinstance(thing, tuple):
        return False
    near = all_tied(web)
    for way in thing:
        if not goes_along(near, way):
            return False
    return each_once(web[0], thing)


def check_parting(web, thing):
    """Refuse what is no parting of a web."""
    if not is_parting(web, thing):
        raise NoParting("this is no parting of the web")


def plain(web, parting):
    """The plain form of a parting: each way written, the ways rising."""
    check_parting(web, parting)
    return tuple(sorted([lesser_about(way) for way in parting]))


def ties_along(web, parting):
    """The ties along the ways of a parting, rising."""
    check_parting(web, parting)
    return tuple(sorted([tie_of(one, other) for way in parting for one, other in zip(way, way[1:])]))


def check_ties(web, thing):
    """Refuse what is no rising tuple of ties of a web."""
    if not are_ties(web[0], thing):
        raise NoParting("these are no ties, or they do not rise")
    known = {tie: True for tie in web[1]}
    for tie in thing:
        if tie not in known:
            raise NoParting("a tie is none of the web")


def way_from(near, end):
    """The way that goes on from one of its ends as long as it can, no place being tied to more than two."""
    way = [end]
    ahead = near[end]
    while ahead:
        way.append(ahead[0])
        ahead = [place for place in near[way[-1]] if place not in way]
    return tuple(way)


def parting_along(web, ties):
    """The plain parting whose ways go along just these ties of a web."""
    check_web(web)
    check_ties(web, ties)
    bare = (web[0], ties)
    near = all_tied(bare)
    ways = []
    for part in parts(bare):
        if any([len(near[place]) > 2 for place in part]):
            raise NoParting("three of the ties are at one place")
        ends = [place for place in part if len(near[place]) < 2]
        if not ends:
            raise NoParting("some of the ties close a ring")
        # From its lesser end a way goes the lesser way about.
        ways.append(way_from(near, ends[0]))
    return tuple(sorted(ways))
