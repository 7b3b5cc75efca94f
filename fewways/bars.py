"""Bars: places that show that no parting of a web has fewer ways, with told ends and without."""

from fewways.errors import TooMany
from fewways.trial import places_in
from fewways.ways import check_parting, is_parting
from fewways.webs import all_tied, are_places, check_places, check_web, parts, without

MOST_BARRED = 12


def shows(web, bar):
    """How many ways a bar shows to be needed."""
    return shows_with(web, (), bar)


def shows_with(web, ends, bar):
    """How many ways a bar shows to be needed where told ends are kept."""
    check_web(web)
    check_places(web[0], ends)
    check_places(web[0], bar)
    return len(parts(without(web, bar))) - len([place for place in bar if place not in ends])


def ends_kept(ends, parting):
    """Tell whether each of the told ends is the first or the last place of its way."""
    outer = {place: True for way in parting for place in (way[0], way[-1])}
    return all([place in outer for place in ends])


def keeps(web, ends, parting):
    """Tell whether a parting of a web keeps told ends."""
    check_web(web)
    check_places(web[0], ends)
    check_parting(web, parting)
    return ends_kept(ends, parting)


def parts_counted(near, group):
    """How many parts the places of a group make, by the group of those tied to each place."""
    found = 0
    left = group
    while left:
        ahead = left & -left
        while ahead:
            place = ahead.bit_length() - 1
            left -= 1 << place
            ahead = (ahead | near[place]) & left
        found += 1
    return found


def best_bar(web):
    """The most that a bar of a web shows, and the least one of the bars that show so much."""
    check_web(web)
    if web[0] > MOST_BARRED:
        raise TooMany("the best bar is told only of webs of at most twelve places")
    near = [sum([1 << other for other in others]) for others in all_tied(web)]
    whole = (1 << web[0]) - 1
    tries = []
    for group in range(whole + 1):
        bar = tuple(places_in(group))
        # Turned below nought, so that the least of all tries shows most by the least bar.
        tries.append((len(bar) - parts_counted(near, whole - group), bar))
    lack, best = min(tries)
    return -lack, best


def is_bar_paper(web, thing):
    """Tell of anything whether it is a bar paper of a web."""
    check_web(web)
    if not isinstance(thing, tuple) or len(thing) != 3:
        return False
    ends, parting, bar = thing
    if not are_places(web[0], ends) or not is_parting(web, parting) or not are_places(web[0], bar):
        return False
    return ends_kept(ends, parting) and shows_with(web, ends, bar) == len(parting)
