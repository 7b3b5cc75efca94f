"""Partings of webs of at most ten places, by trial of all groups of places.

A group is a whole number: place p is in it where its bit p is 1. So groups are numbered from 0 on,
and each group has a greater number than all groups within it: what is found out of them is there in time.
"""

from fewways.errors import TooMany
from fewways.webs import all_tied, check_web

MOST_TRIED = 10


def check_tried(web):
    """Refuse what is no web, or one of too many places to be tried."""
    check_web(web)
    if web[0] > MOST_TRIED:
        raise TooMany("only webs of at most ten places are tried")


def places_in(group):
    """The places of a group, a rising list."""
    return [place for place in range(group.bit_length()) if (group >> place) & 1]


def begins(web):
    """All (group, place, rest, heads): a way through just the group that begins at the place goes on
    through just the rest, and there begins at one of the heads. They are listed by their groups."""
    near = all_tied(web)
    found = []
    for group in range(1, 1 << web[0]):
        for place in places_in(group):
            rest = group - (1 << place)
            heads = [other for other in near[place] if (rest >> other) & 1]
            found.append((group, place, rest, heads))
    return found


def least_ways(web):
    """For each group that some way goes just through, the least such way."""
    begun = {}
    least = {}
    for group, place, rest, heads in begins(web):
        tails = [begun[(rest, head)] for head in heads if (rest, head) in begun]
        if rest == 0:
            begun[(group, place)] = (place,)
        elif tails:
            begun[(group, place)] = (place,) + min(tails)
        if (group, place) in begun:
            # Places rise, so the first one that a way begins at gives the least way.
            least.setdefault(group, begun[(group, place)])
    return least


def ways_counted(web):
    """For each group how many written ways go just through it."""
    begun = {}
    both_about = {}
    for group, place, rest, heads in begins(web):
        times = 1 if rest == 0 else sum([begun[(rest, head)] for head in heads])
        begun[(group, place)] = times
        both_about[group] = both_about.get(group, 0) + times
    # A way of one place was counted once, each other one twice, as it goes both ways about.
    return {group: (times + 1) // 2 for group, times in both_about.items()}


def ends_reached(web):
    """For each group and each place of it the other ends, rising, of the ways that begin at the place
    and go just through the group."""
    reached = {}
    for group, place, rest, heads in begins(web):
        ends = [end for head in heads for end in reached[(rest, head)]]
        reached[(group, place)] = [place] if rest == 0 else sorted(set(ends))
    return reached


def firsts(group):
    """The groups within a group that have its least place: the way with that place goes through one of them."""
    least = group & -group
    others = group - least
    found = [least]
    chosen = others
    while chosen:
        found.append(least + chosen)
        chosen = (chosen - 1) & others
    return found


def fewest(web):
    """The least number of ways that a parting of a web has."""
    return len(least_parting(web))


def least_partings(web):
    """For each group, of the partings of just its places to fewest ways the plain one that is least."""
    least = least_ways(web)
    best = {0: ()}
    for group in range(1, 1 << web[0]):
        # Of two rising tuples as long as one another the lesser one stays so when both get one way more,
        # or when a way is put in place of a greater one: so the least is made of what is least.
        tries = [best[group - first] + (least[first],) for first in firsts(group) if first in least]
        risen = [tuple(sorted(parting)) for parting in tries]
        best[group] = min(risen, key=lambda parting: (len(parting), parting))
    return best


def least_parting(web):
    """Of the partings to fewest ways the plain one that is least."""
    check_tried(web)
    return least_partings(web)[(1 << web[0]) - 1]


def tally_with(tally, times, more):
    """A tally by numbers of ways, with another one added, which has one way more each and counts so many times."""
    pushed = [0] + more[:-1]
    return [old + times * new for old, new in zip(tally, pushed)]


def counted(web):
    """For each number of ways, rising, how many plain partings of a web have so many."""
    check_tried(web)
    many = web[0]
    ways = ways_counted(web)
    tallies = [[1] + [0] * many]
    for group in range(1, 1 << many):
        tally = [0] * (many + 1)
        for first in firsts(group):
            tally = tally_with(tally, ways[first], tallies[group - first])
        tallies.append(tally)
    return {number: times for number, times in enumerate(tallies[-1]) if times > 0}


def through_ends(web):
    """The two ends (a, b), a no greater than b, of ways through all places of a web: a rising list."""
    check_tried(web)
    whole = (1 << web[0]) - 1
    reached = ends_reached(web)
    return [(one, other) for one in range(web[0]) for other in reached[(whole, one)] if one <= other]
