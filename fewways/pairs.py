"""Pairs of a one-way web: arrows no two of which lead from one place, or to one. And marks, which bar more of them."""

from fewways.oneways import all_led, check_one_way
from fewways.webs import are_places, are_rising_pairs


def is_pairs(web, thing):
    """Tell of anything whether it is pairs of a one-way web."""
    check_one_way(web)
    if not are_rising_pairs(web[0], thing):
        return False
    known = {arrow: True for arrow in web[1]}
    if not all([arrow in known for arrow in thing]):
        return False
    begins = len({begin for begin, end in thing})
    ends = len({end for begin, end in thing})
    return begins == len(thing) and ends == len(thing)


def is_marks(web, thing):
    """Tell of anything whether it is marks of a one-way web."""
    check_one_way(web)
    if not isinstance(thing, tuple) or len(thing) != 2:
        return False
    begins, ends = thing
    if not are_places(web[0], begins) or not are_places(web[0], ends):
        return False
    return all([begin in begins or end in ends for begin, end in web[1]])


def find_end(led, come, begin, tried):
    """Pair a begin with some end not yet tried, the begin paired with it so far finding another one; tell whether it
    went. Each end is tried once, so this goes no deeper than there are places."""
    for end in led[begin]:
        if end not in tried:
            tried[end] = True
            if end not in come or find_end(led, come, come[end], tried):
                come[end] = begin
                return True
    return False


def paired(web):
    """Most pairs of a one-way web, a dict that has for each end its begin."""
    led = all_led(web)
    come = {}
    for begin in range(web[0]):
        find_end(led, come, begin, {})
    return come


def most_pairs(web):
    """How many pairs of a one-way web there are at most."""
    check_one_way(web)
    return len(paired(web))


def some_pairs(web):
    """Some pairs of a one-way web that are as many as can be."""
    check_one_way(web)
    return tuple(sorted([(begin, end) for end, begin in paired(web).items()]))


def some_marks(web):
    """Some marks of a one-way web that show as many as there are pairs at most."""
    check_one_way(web)
    led = all_led(web)
    come = paired(web)
    kept = {begin: True for begin in come.values()}
    # From the begins without a pair one goes to ends by any arrow, and back by pairs alone. An end without a pair
    # is never come to, else there were more pairs. So the ends come to and the begins not come to are one a pair.
    begins = [place for place in range(web[0]) if place not in kept]
    ends = {}
    at = 0
    while at < len(begins):
        begin = begins[at]
        for end in led[begin]:
            if end not in ends:
                ends[end] = True
                begins.append(come[end])
        at += 1
    return tuple([place for place in range(web[0]) if place not in begins]), tuple(sorted(ends))
