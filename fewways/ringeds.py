"""Ringed partings: webs parted to ways and wide rings; to fewest ways by trial of all groups of at most eight places.

Groups are whole numbers, as in fewways.trial.
"""

from fewways.errors import TooMany
from fewways.trial import firsts, least_partings
from fewways.ways import all_go, goes_along, is_wide, lesser_about
from fewways.webs import all_tied, check_web, each_once

MOST_RINGED = 8


def goes_written(near, thing):
    """Tell of anything whether it is a way as it is written, by the lists of the places that are tied to each place."""
    return goes_along(near, thing) and thing == lesser_about(thing)


def is_ringed(web, thing):
    """Tell of anything whether it is a ringed parting of a web."""
    check_web(web)
    if not isinstance(thing, tuple) or len(thing) != 2:
        return False
    ways, rings = thing
    near = all_tied(web)
    return all_go(near, ways, goes_written) and all_go(near, rings, is_wide) and each_once(web[0], ways + rings)


def group_of(places):
    """The group of some places, none twice."""
    return sum([1 << place for place in places])


def least_rings(web):
    """For each group that some wide ring goes just through, the least such ring."""
    near = all_tied(web)
    least = {}
    for first in range(web[0]):
        ways = [(first,)]
        while ways:
            for way in ways:
                if len(way) > 2 and way[-1] in near[first]:
                    # Ways as long as one another rise, so the first one is least, and is so the lesser way about.
                    least.setdefault(group_of(way), way)
            ways = [way + (place,) for way in ways for place in near[way[-1]] if place > first and place not in way]
    return least


def least_ringings(web):
    """For each group that is parted to wide rings alone, the least rising tuple of them."""
    rings = least_rings(web)
    least = {0: ()}
    for group in range(1, 1 << web[0]):
        # Each ring begins with its least place, so the one with the least of all is the first one.
        tries = [(rings[first],) + least[group - first] for first in firsts(group)
                 if first in rings and group - first in least]
        if tries:
            least[group] = min(tries)
    return least


def ringed_fewest(web):
    """The fewest ways of a ringed parting of a web."""
    ways, rings = ringed_least(web)
    return len(ways)


def ringed_least(web):
    """Of the ringed partings of a web to fewest ways the least one."""
    check_web(web)
    if web[0] > MOST_RINGED:
        raise TooMany("only webs of at most eight places are parted to ways and rings")
    whole = (1 << web[0]) - 1
    partings = least_partings(web)
    tries = [(partings[whole - group], rings) for group, rings in least_ringings(web).items()]
    return min(tries, key=lambda parting: (len(parting[0]), parting))
