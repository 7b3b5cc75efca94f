"""Forests: webs without rings, parted to fewest ways that keep told ends, with a bar that shows as many."""

from fewways.errors import NoForest
from fewways.ways import parting_along
from fewways.webs import all_tied, check_places, parts, tie_of


def is_forest(web):
    """Tell whether a web is without rings."""
    # A part without rings has one tie less than places, any other one has more ties.
    return len(parts(web)) == web[0] - len(web[1])


def check_forest(web):
    """Refuse what is no web, or one with a ring."""
    if not is_forest(web):
        raise NoForest("the web has a ring")


def hung(web):
    """The places of a forest as a list of (place, upper): each part hangs from one place, whose upper one is None,
    and each other place from a place that is listed ahead of it."""
    near = all_tied(web)
    seen = set()
    rows = []
    at = 0
    for top in range(web[0]):
        if top not in seen:
            rows.append((top, None))
        while at < len(rows):
            place, upper = rows[at]
            for other in near[place]:
                if other != upper:
                    seen.add(other)
                    rows.append((other, place))
            at += 1
    return rows


def joined_up(web, ends):
    """As many ties of a forest as ways that keep told ends can go along, and the places filled from below, which
    are a bar that shows that there are no more: two rising tuples.

    A place goes on downward as far as it may, since a tie upward wins no more and may take room above. So each tie
    left out has a filled place at it, and no tie that was taken has two: the bar shows the places less these ties."""
    waiting = [[] for place in range(web[0])]
    ties = []
    filled = []
    for place, upper in hung(web)[::-1]:
        room = 1 if place in ends else 2
        ties += [tie_of(place, other) for other in waiting[place][:room]]
        if len(waiting[place]) >= room:
            filled.append(place)
        elif upper is not None:
            waiting[upper].append(place)
    return tuple(sorted(ties)), tuple(sorted(filled))


def checked_join(web, ends):
    """The ties and the bar of a forest and told ends, when both are looked at."""
    check_forest(web)
    check_places(web[0], ends)
    return joined_up(web, ends)


def forest_fewest(web, ends):
    """The fewest ways of a parting of a forest that keeps told ends."""
    ties, bar = checked_join(web, ends)
    return web[0] - len(ties)


def forest_parting(web, ends):
    """Some parting of a forest to fewest ways that keeps told ends."""
    ties, bar = checked_join(web, ends)
    return parting_along(web, ties)


def forest_bar(web, ends):
    """Some bar of a forest that shows with told ends as many as the fewest ways."""
    ties, bar = checked_join(web, ends)
    return bar
