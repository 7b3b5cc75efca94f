"""How many plain partings of a forest have fewest ways, and which places are at the end of a way in one of them.

A tally is a dict: for each number of ties how many choices of so many ties there are.
"""

from fewways.forests import check_forest, hung, joined_up


def added(one, other):
    """Two tallies in one."""
    found = dict(one)
    for ties, times in other.items():
        found[ties] = found.get(ties, 0) + times
    return found


def combined(one, other, more):
    """The tally of each choice of the one with each of the other, and with so many ties more."""
    found = {}
    for ties, times in one.items():
        for others, often in other.items():
            both = ties + others + more
            found[both] = found.get(both, 0) + times * often
    return found


def hang_on(upper, lower):
    """What is tallied of a place when one more is hung from it; both have a tally for none, one, two ties downward."""
    to_be_tied = added(lower[0], lower[1])
    apart = added(to_be_tied, lower[2])
    found = [combined(tally, apart, 0) for tally in upper]
    for ties in (1, 2):
        found[ties] = added(found[ties], combined(upper[ties - 1], to_be_tied, 1))
    return found


def forest_count(web):
    """In how many plain partings a forest is parted to fewest ways."""
    check_forest(web)
    tallies = [[{0: 1}, {}, {}] for place in range(web[0])]
    whole = {0: 1}
    for place, upper in hung(web)[::-1]:
        none, one, two = tallies[place]
        if upper is None:
            whole = combined(whole, added(none, added(one, two)), 0)
        else:
            tallies[upper] = hang_on(tallies[upper], tallies[place])
    # Fewest ways are most ties, and there is one plain parting along them.
    return whole[max(whole)]


def open_places(web):
    """The places of a forest that are at the end of a way in some parting to fewest ways, rising."""
    check_forest(web)
    most = len(joined_up(web, ())[0])
    return tuple([place for place in range(web[0]) if len(joined_up(web, (place,))[0]) == most])
