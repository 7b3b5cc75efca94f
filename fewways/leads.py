"""One-way partings: one-way webs parted to one-way ways, and to fewest of them where there is an order."""

from fewways.errors import NoParting
from fewways.oneways import all_led, check_one_way, check_ordered
from fewways.pairs import is_marks, is_pairs, most_pairs, some_marks, some_pairs
from fewways.ways import all_go, goes_along
from fewways.webs import each_once


def is_led_parting(web, thing):
    """Tell of anything whether it is a one-way parting of a one-way web."""
    check_one_way(web)
    return all_go(all_led(web), thing, goes_along) and each_once(web[0], thing)


def arrows_along(ways):
    """The arrows along one-way ways, a list."""
    return [(begin, end) for way in ways for begin, end in zip(way, way[1:])]


def pairs_along(web, parting):
    """The pairs along the ways of a one-way parting."""
    if not is_led_parting(web, parting):
        raise NoParting("this is no one-way parting of the one-way web")
    return tuple(sorted(arrows_along(parting)))


def check_pairs(web, thing):
    """Refuse what is no pairs of a one-way web."""
    if not is_pairs(web, thing):
        raise NoParting("these are no pairs of the one-way web")


def follow(steps, start):
    """The places that steps lead through from a start on, until they end or come to the start again."""
    gone = [start]
    while gone[-1] in steps and steps[gone[-1]] != start:
        gone.append(steps[gone[-1]])
    return tuple(gone)


def ways_along(many, pairs):
    """The one-way ways of so many places along pairs, rising; places on rings of the pairs are on none of them."""
    steps = {begin: end for begin, end in pairs}
    ends = {end: True for begin, end in pairs}
    return tuple([follow(steps, place) for place in range(many) if place not in ends])


def led_parting(web, pairs):
    """The one-way parting along just these pairs."""
    check_ordered(web)
    check_pairs(web, pairs)
    return ways_along(web[0], pairs)


def led_fewest(web):
    """The fewest ways of a one-way parting."""
    check_ordered(web)
    return web[0] - most_pairs(web)


def some_led(web):
    """Some one-way parting to fewest ways."""
    check_ordered(web)
    return ways_along(web[0], some_pairs(web))


def is_way_paper(web, thing):
    """Tell of anything whether it is a way paper of a one-way web."""
    check_ordered(web)
    if not isinstance(thing, tuple) or len(thing) != 2:
        return False
    parting, marks = thing
    if not is_led_parting(web, parting) or not is_marks(web, marks):
        return False
    begins, ends = marks
    return len(begins) + len(ends) == web[0] - len(parting)


def way_paper(web):
    """Some way paper of a one-way web."""
    return some_led(web), some_marks(web)
