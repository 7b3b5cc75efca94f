"""Spreads: the places of a web alone, on ties and on odd rings, and places that hold out as many as must be alone.

A tie is a ring of two places of the one-way web both ways. So a spread is a round parting of it, near enough.
"""

from fewways.oneways import both_ways
from fewways.rounds import lack, lacking, round_fewest, some_round
from fewways.ways import all_go, is_wide
from fewways.webs import all_tied, are_places, are_ties, check_web, each_once, tie_of


def is_odd_ring(near, thing):
    """Tell of anything whether it is an odd ring, by the lists of the places that are tied to each place."""
    return is_wide(near, thing) and len(thing) % 2 == 1


def is_spread(web, thing):
    """Tell of anything whether it is a spread of a web."""
    check_web(web)
    if not isinstance(thing, tuple) or len(thing) != 3:
        return False
    alone, ties, rings = thing
    near = all_tied(web)
    if not are_places(web[0], alone) or not are_ties(web[0], ties) or not all_go(near, rings, is_odd_ring):
        return False
    return all([high in near[low] for low, high in ties]) and each_once(web[0], (alone,) + ties + rings)


def fewest_alone(web):
    """The fewest places alone that a spread of a web has."""
    return round_fewest(both_ways(web))


def ties_of_two(places):
    """Ties between the first two of these places, the next two, and so on; a list."""
    return [tie_of(places[at], places[at + 1]) for at in range(0, len(places), 2)]


def lesser_round(ring):
    """A ring of three or more places, with its first one left first, the lesser way about."""
    return min(ring, ring[:1] + ring[:0:-1])


def some_spread(web):
    """Some spread of a web with the fewest places alone."""
    ways, rings = some_round(both_ways(web))
    # A way has an odd number of places: one of an even number would have more pairs as ties, each both ways.
    ties = [tie for way in ways for tie in ties_of_two(way[1:])]
    ties += [tie for ring in rings if len(ring) % 2 == 0 for tie in ties_of_two(ring)]
    odd = [lesser_round(ring) for ring in rings if len(ring) % 2 == 1]
    # Ways rise by their first places, and rings do so either way about.
    return tuple([way[0] for way in ways]), tuple(sorted(ties)), tuple(odd)


def hold_out(web, places):
    """How many places must be alone, as places show."""
    return lack(both_ways(web), places)


def holding_out(web):
    """Some places that hold out as many as the fewest places alone."""
    return lacking(both_ways(web))
