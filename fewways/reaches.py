"""What the places of a one-way web with an order reach: runs, places apart, shelves, and the longest one-way ways."""

from fewways.leads import is_led_parting, led_fewest, some_led
from fewways.oneways import all_come, all_led, check_ordered, ordered
from fewways.pairs import some_marks
from fewways.webs import are_places


def all_reached(web):
    """For each place of a one-way web with an order the rising list of the places that it reaches."""
    led = all_led(web)
    reached = [[] for place in range(web[0])]
    # From behind: so what is reached by way of a place is known ahead of the places from which arrows lead to it.
    for place in ordered(web)[::-1]:
        reached[place] = sorted({far for near in led[place] for far in [near] + reached[near]})
    return reached


def reach(web):
    """The one-way web of the same places with an arrow from each place to each one that it reaches."""
    check_ordered(web)
    return web[0], tuple([(begin, end) for begin, ends in enumerate(all_reached(web)) for end in ends])


def is_apart(web, thing):
    """Tell of anything whether it is places none of which reaches another one of them."""
    reached = reach(web)
    if not are_places(web[0], thing):
        return False
    return not any([begin in thing and end in thing for begin, end in reached[1]])


def fewest_runs(web):
    """The fewest runs of a one-way web."""
    return led_fewest(reach(web))


def some_runs(web):
    """Some fewest runs of a one-way web."""
    return some_led(reach(web))


def most_apart(web):
    """Some places apart that are as many as the fewest runs."""
    begins, ends = some_marks(reach(web))
    # Each arrow of the reach has a mark, so no two places without one reach one another. And they are as many as
    # the places less the marks, or more: so they are just so many, as each is on a run of its own.
    return tuple([place for place in range(web[0]) if place not in begins and place not in ends])


def is_run_paper(web, thing):
    """Tell of anything whether it is a run paper of a one-way web."""
    reached = reach(web)
    if not isinstance(thing, tuple) or len(thing) != 2:
        return False
    runs, apart = thing
    return is_led_parting(reached, runs) and is_apart(web, apart) and len(runs) == len(apart)


def heights(web):
    """For each place of a one-way web with an order its height, a list."""
    come = all_come(web)
    found = [0] * web[0]
    for place in ordered(web):
        found[place] = 1 + max([found[other] for other in come[place]], default=0)
    return found


def shelves(web):
    """The places of each height, by heights from 1 on, a list of rising tuples."""
    check_ordered(web)
    high = heights(web)
    return [tuple([place for place in range(web[0]) if high[place] == height])
            for height in range(1, max(high, default=0) + 1)]


def best_way(ways):
    """The least of the longest ones of some ways; () where there are none."""
    return min(ways, key=lambda way: (-len(way), way), default=())


def longest(web):
    """The least of the longest one-way ways."""
    check_ordered(web)
    led = all_led(web)
    begun = {}
    for place in ordered(web)[::-1]:
        begun[place] = (place,) + best_way([begun[other] for other in led[place]])
    return best_way(list(begun.values()))
