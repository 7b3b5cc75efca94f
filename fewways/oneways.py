"""One-way webs: places and arrows between them, their ways, rings and orders."""

from fewways.errors import NoOneWay, NoOrder, NoPlace
from fewways.ways import goes_along, goes_round
from fewways.webs import are_rising_pairs, check_web, is_many, is_place


def is_one_way(thing):
    """Tell of anything whether it is a one-way web."""
    if not isinstance(thing, tuple) or len(thing) != 2:
        return False
    return is_many(thing[0]) and are_rising_pairs(thing[0], thing[1])


def check_one_way(thing):
    """Refuse what is no one-way web."""
    if not is_one_way(thing):
        raise NoOneWay("this is no one-way web")


def all_led(web):
    """For each place of a one-way web the rising list of the places to which arrows lead from it."""
    led = [[] for place in range(web[0])]
    for begin, end in web[1]:
        led[begin].append(end)
    return led


def all_come(web):
    """For each place of a one-way web the rising list of the places from which arrows lead to it."""
    come = [[] for place in range(web[0])]
    for begin, end in web[1]:
        come[end].append(begin)
    return come


def check_one_way_place(web, place):
    """Refuse what is no one-way web, or no place of it."""
    check_one_way(web)
    if not is_place(web[0], place):
        raise NoPlace("this is no place of the one-way web")


def leads_to(web, place):
    """The places to which arrows lead from a place, rising."""
    check_one_way_place(web, place)
    return tuple(all_led(web)[place])


def comes_from(web, place):
    """The places from which arrows lead to a place, rising."""
    check_one_way_place(web, place)
    return tuple(all_come(web)[place])


def both_ways(web):
    """The one-way web of a web with two arrows for each tie, one either way."""
    check_web(web)
    many, ties = web
    return many, tuple(sorted(list(ties) + [(high, low) for low, high in ties]))


def upward(web):
    """The one-way web of a web with each tie as an arrow to its greater place."""
    check_web(web)
    return web


def is_led(web, thing):
    """Tell of anything whether it is a one-way way of a one-way web."""
    check_one_way(web)
    return goes_along(all_led(web), thing)


def is_led_ring(web, thing):
    """Tell of anything whether it is a one-way ring of a one-way web."""
    check_one_way(web)
    return goes_round(all_led(web), thing)


def ordered(web):
    """The least order of a one-way web as far as there is one: each place in it has all behind it to which it leads,
    and of the others none can be taken up, as an arrow leads to it from another one of them."""
    led = all_led(web)
    waits = [len(begins) for begins in all_come(web)]
    ready = [place for place in range(web[0]) if waits[place] == 0]
    order = []
    while ready:
        place = min(ready)
        ready.remove(place)
        order.append(place)
        for other in led[place]:
            waits[other] -= 1
            if waits[other] == 0:
                ready.append(other)
    return order


def least_order(web):
    """The least order of a one-way web; None where there is none."""
    check_one_way(web)
    order = ordered(web)
    return tuple(order) if len(order) == web[0] else None


def check_ordered(web):
    """Refuse what is no one-way web, or one that has no order."""
    if least_order(web) is None:
        raise NoOrder("the one-way web has a ring")


def some_ring(web):
    """Some one-way ring of a one-way web; None where there is none."""
    check_one_way(web)
    order = ordered(web)
    come = all_come(web)
    # To each place that is left an arrow leads from another one: going back along these ends in a ring.
    back = {place: [begin for begin in come[place] if begin not in order] for place in range(web[0])
            if place not in order}
    if not back:
        return None
    gone = [min(back)]
    while back[gone[-1]][0] not in gone:
        gone.append(back[gone[-1]][0])
    ring = gone[gone.index(back[gone[-1]][0]):][::-1]
    least = ring.index(min(ring))
    return tuple(ring[least:] + ring[:least])
