"""Round partings: one-way webs parted to one-way ways and rings, and places that show that no fewer ways do."""

from fewways.errors import NoParting
from fewways.leads import arrows_along, check_pairs, follow, ways_along
from fewways.oneways import all_led, check_one_way
from fewways.pairs import most_pairs, some_marks, some_pairs
from fewways.ways import all_go, goes_along, goes_round
from fewways.webs import are_places, check_places, each_once


def is_round(web, thing):
    """Tell of anything whether it is a round parting of a one-way web."""
    check_one_way(web)
    if not isinstance(thing, tuple) or len(thing) != 2:
        return False
    ways, rings = thing
    led = all_led(web)
    return all_go(led, ways, goes_along) and all_go(led, rings, goes_round) and each_once(web[0], ways + rings)


def round_pairs(web, parting):
    """The pairs along the ways and rings of a round parting."""
    if not is_round(web, parting):
        raise NoParting("this is no round parting of the one-way web")
    ways, rings = parting
    return tuple(sorted(arrows_along(ways) + arrows_along([ring + ring[:1] for ring in rings])))


def rings_along(many, pairs):
    """The one-way rings of so many places along pairs, rising."""
    steps = {begin: end for begin, end in pairs}
    seen = {place: True for way in ways_along(many, pairs) for place in way}
    rings = []
    for place in range(many):
        if place not in seen:
            rings.append(follow(steps, place))
            seen.update({other: True for other in rings[-1]})
    return tuple(rings)


def round_of(web, pairs):
    """The round parting along just these pairs."""
    check_pairs(web, pairs)
    return ways_along(web[0], pairs), rings_along(web[0], pairs)


def round_fewest(web):
    """The fewest ways of a round parting."""
    check_one_way(web)
    return web[0] - most_pairs(web)


def some_round(web):
    """Some round parting to fewest ways."""
    return round_of(web, some_pairs(web))


def shown_by(web, places):
    """How many places there are, less those to which arrows lead from one of them."""
    return len(places) - len({end for begin, end in web[1] if begin in places})


def lack(web, places):
    """How many ways places show to be needed."""
    check_one_way(web)
    check_places(web[0], places)
    return shown_by(web, places)


def lacking(web):
    """Some places that show as many as the fewest ways of a round parting."""
    begins, ends = some_marks(web)
    # An arrow from a place that is no marked begin leads to a marked end: so these show all places less the marks.
    return tuple([place for place in range(web[0]) if place not in begins])


def is_round_paper(web, thing):
    """Tell of anything whether it is a round paper of a one-way web."""
    check_one_way(web)
    if not isinstance(thing, tuple) or len(thing) != 2:
        return False
    parting, places = thing
    if not is_round(web, parting) or not are_places(web[0], places):
        return False
    return shown_by(web, places) == len(parting[0])


def round_paper(web):
    """Some round paper of a one-way web."""
    return some_round(web), lacking(web)
