"""Four places that bar a plan, and plans of webs that none bar."""

from fewways.errors import TooMany
from fewways.plans import ACROSS, BESIDE, ONE
from fewways.ways import goes_along
from fewways.webs import all_tied, check_web, parts_among

MOST_PLANNED = 20


def is_four(web, thing):
    """Tell of anything whether it is four places of a web that bar a plan."""
    check_web(web)
    near = all_tied(web)
    if not goes_along(near, thing) or len(thing) != 4:
        return False
    first, second, third, fourth = thing
    return third not in near[first] and fourth not in near[first] and fourth not in near[second]


def check_planned(web):
    """Refuse what is no web, or one of too many places."""
    check_web(web)
    if web[0] > MOST_PLANNED:
        raise TooMany("only webs of at most twenty places are looked at for a plan")


def four_of(web):
    """The least four places of a web that bar a plan; None where there are none."""
    check_planned(web)
    near = all_tied(web)
    # That all four are unlike need not be asked: two of them that were one would be tied to the same places.
    threes = [(first, second, third) for first in range(web[0]) for second in near[first] for third in near[second]
              if third not in near[first]]
    fours = [(first, second, third, fourth) for first, second, third in threes for fourth in near[third]
             if fourth not in near[first] and fourth not in near[second]]
    return min(fours, default=None)


def pieces(near, places, word):
    """The places that must stay together where a plan of just these places begins with a word: those that hang
    together by ties, for an across those that do so by two places not being tied."""
    held = {place: [other for other in places if (other in near[place]) == (word == BESIDE)] for place in places}
    return parts_among(held, places)


def planned(near, places):
    """Some plan of just these places with its order; None where there is none, as of no places."""
    if len(places) == 1:
        return ONE, places
    for word in (BESIDE, ACROSS):
        found = pieces(near, places, word)
        if len(found) > 1:
            return put_together(word, [planned(near, piece) for piece in found])
    return None


def put_together(word, rows):
    """Plans with their orders as one plan with its order; None where one of them is None."""
    if None in rows:
        return None
    plans = tuple([plan for plan, order in rows])
    return (word, plans), tuple([place for plan, order in rows for place in order])


def plan_of(web):
    """Some plan of a web with the order of its places; None where there is none."""
    check_planned(web)
    return planned(all_tied(web), tuple(range(web[0])))
