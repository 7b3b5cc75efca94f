"""The web of a plan parted to fewest ways, with a bar that shows as many.

What is known of a plan within is a tuple (places, ways, bar): a list of its places, a list of fewest ways
through all of them, and a list of places that, as a bar of its own web, show as many.
"""

from fewways.plans import ACROSS, ONE, check_plan
from fewways.ways import lesser_about


def laid_beside(one, other):
    """What is known of two plans that lie side by side."""
    return one[0] + other[0], one[1] + other[1], one[2] + other[2]


def laced(ways, between):
    """One way through ways of one side, with ways of the other side between them: as many, or one less."""
    found = ()
    for at, way in enumerate(ways):
        found += way
        if at < len(between):
            found += between[at]
    return found


def cut_up(ways, many):
    """Ways cut to so many, which must be no fewer than they are, and no more than their places."""
    found = list(ways)
    at = 0
    while len(found) < many:
        if len(found[at]) > 1:
            found[at:at + 1] = [found[at][:1], found[at][1:]]
        at += 1
    return found


def joined_by_places(one, other):
    """What is known of two plans tied across, of which the one has more ways than the other has places."""
    places, ways, bar = one
    joints = other[0]
    behind = len(joints) + 1
    way = laced(ways[:behind], [(joint,) for joint in joints])
    # Without the other side's places nothing but the one side is left, so its own bar shows so many fewer.
    return places + joints, [way] + ways[behind:], bar + joints


def tied_across(one, other):
    """What is known of two plans that are tied across."""
    if len(one[1]) > len(other[0]):
        return joined_by_places(one, other)
    if len(other[1]) > len(one[0]):
        return joined_by_places(other, one)
    # Neither side has more ways than the other has places: so both can be cut to one number, and none are barred.
    many = max(len(one[1]), len(other[1]))
    return one[0] + other[0], [laced(cut_up(one[1], many), cut_up(other[1], many))], []


def known_of(plan, start):
    """What is known of a plan whose places are numbered from a start on."""
    if plan == ONE:
        return [start], [(start,)], []
    # Nothing at all, put together with a plan either way, is that plan.
    known = ([], [], [])
    for inner in plan[1]:
        other = known_of(inner, start + len(known[0]))
        if plan[0] == ACROSS:
            known = tied_across(known, other)
        else:
            known = laid_beside(known, other)
    return known


def checked_known(plan):
    """What is known of a plan, when it is looked at."""
    check_plan(plan)
    return known_of(plan, 0)


def plan_fewest(plan):
    """The fewest ways of the web of a plan."""
    places, ways, bar = checked_known(plan)
    return len(ways)


def plan_parting(plan):
    """Some parting of the web of a plan to fewest ways."""
    places, ways, bar = checked_known(plan)
    return tuple(sorted([lesser_about(way) for way in ways]))


def plan_bar(plan):
    """Some bar of the web of a plan that shows as many as the fewest ways."""
    places, ways, bar = checked_known(plan)
    return tuple(sorted(bar))
