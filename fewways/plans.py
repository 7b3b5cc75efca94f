"""Plans: how a web is put together by laying side by side and tying across."""

from fewways.errors import NoPlan

ONE = ("one",)
BESIDE = "beside"
ACROSS = "across"
MOST_ONES = 40
MOST_DEEP = 24


def is_put_together(thing):
    """Tell of anything whether it is a word of a plan with a tuple of two or more things, whatever they are."""
    if not isinstance(thing, tuple) or len(thing) != 2 or thing[0] not in (BESIDE, ACROSS):
        return False
    return isinstance(thing[1], tuple) and len(thing[1]) >= 2


def is_plan(thing):
    """Tell of anything whether it is a plan."""
    left = [(thing, 1)]
    ones = 0
    while left:
        here, deep = left.pop()
        if here == ONE:
            ones += 1
        elif is_put_together(here):
            left.extend([(inner, deep + 1) for inner in here[1]])
        else:
            return False
        if ones > MOST_ONES or deep > MOST_DEEP:
            return False
    return True


def check_plan(thing):
    """Refuse what is no plan."""
    if not is_plan(thing):
        raise NoPlan("this is no plan")


def ties_within(plan, start):
    """The place behind a plan whose places are numbered from a start on, and a list of its ties."""
    if plan == ONE:
        return start + 1, []
    at = start
    ties = []
    for inner in plan[1]:
        behind, inner_ties = ties_within(inner, at)
        ties.extend(inner_ties)
        if plan[0] == ACROSS:
            ties.extend([(low, high) for low in range(start, at) for high in range(at, behind)])
        at = behind
    return at, ties


def plan_web(plan):
    """The web of a plan."""
    check_plan(plan)
    many, ties = ties_within(plan, 0)
    return many, tuple(sorted(ties))
