"""What several tests use: odd things of all kinds, webs, and how a refusal is looked at."""

import itertools
import random

from fewways.errors import FewError
from fewways.ways import parting_along

# Each module, and behind it its functions with their arguments.
ROWS = """
    webs: is_web(thing) web_of(many,pairs) tied(web,place) parts(web) without(web,places)
    ways: is_way(web,thing) written(web,way) is_parting(web,thing) plain(web,parting) ties_along(web,parting)
        parting_along(web,ties)
    trial: fewest(web) least_parting(web) counted(web) through_ends(web)
    bars: shows(web,bar) keeps(web,ends,parting) shows_with(web,ends,bar) best_bar(web) is_bar_paper(web,thing)
    forests: is_forest(web) forest_fewest(web,ends) forest_parting(web,ends) forest_bar(web,ends)
    opens: forest_count(web) open_places(web)
    plans: is_plan(thing) plan_web(plan)
    fours: is_four(web,thing) four_of(web) plan_of(web)
    acrosses: plan_fewest(plan) plan_parting(plan) plan_bar(plan)
    oneways: is_one_way(thing) leads_to(web,place) comes_from(web,place) both_ways(web) upward(web) is_led(web,thing)
        is_led_ring(web,thing) least_order(web) some_ring(web)
    pairs: is_pairs(web,thing) is_marks(web,thing) most_pairs(web) some_pairs(web) some_marks(web)
    leads: is_led_parting(web,thing) pairs_along(web,parting) led_parting(web,pairs) led_fewest(web) some_led(web)
        is_way_paper(web,thing) way_paper(web)
    rounds: is_round(web,thing) round_pairs(web,parting) round_of(web,pairs) round_fewest(web) some_round(web)
        lack(web,places) lacking(web) is_round_paper(web,thing) round_paper(web)
    spreads: is_spread(web,thing) fewest_alone(web) some_spread(web) hold_out(web,places) holding_out(web)
    ringeds: is_ringed(web,thing) ringed_fewest(web) ringed_least(web)
    keepers: thinned(web,begins,ends) keeps_both(web,begins,ends,parting) kept_fewest(web,begins,ends)
        some_kept(web,begins,ends) link(web,begins,ends) link_marks(web,begins,ends)
    reaches: reach(web) is_apart(web,thing) fewest_runs(web) some_runs(web) most_apart(web) is_run_paper(web,thing)
        shelves(web) longest(web)
    texts: web_text(web) one_way_text(web) places_text(places) parting_text(parting) led_text(parting) web_read(text)
        one_way_read(text) places_read(text)
"""


def interface():
    """For each module a dict: for each function of the interface the list of its arguments."""
    found = {}
    for word in ROWS.split():
        if word.endswith(":"):
            module = found.setdefault(word[:-1], {})
        else:
            name, arguments = word[:-1].split("(")
            module[name] = arguments.split(",")
    return found


INTERFACE = interface()


def nested(wrap, deep):
    thing = 0
    for _ in range(deep):
        thing = wrap(thing)
    return thing


def anything():
    """Things of all kinds; none of them is a web, and none but () and (0,) is places, ways or ties of one."""
    return [
        None, True, False, 0, 1, 3, -1, 10 ** 29, -(10 ** 29),
        "", "0", "01", "web", "0-1", "x" * 2000,
        [], [0], [0, 1], [(0, 1)], [[0, 1]], [3, []], [3, ()],
        {}, {0: 1}, {(0, 1): True}, {"many": 3, "ties": ()},
        (), (0,), ((),), (None,), (True,), (False,), ("0",), ([],), ({},), ([0],), ({0: 1},), (-1,), (10 ** 29,),
        (None, None), (True, False), ("0", "1"), ([], {}), ([0], [1]), ({}, {}), (((0,),), 1),
        nested(lambda thing: [thing], 59), nested(lambda thing: (thing,), 59), nested(lambda thing: {"a": thing}, 59),
        nested(lambda thing: (3, thing), 59), nested(lambda thing: (thing, ()), 59),
        nested(lambda thing: ([thing], {0: ()}), 28),
        tuple([None] * 9000), tuple([True] * 9000), [0] * 9000, tuple([(0, 0)] * 3000), tuple([[]] * 9000),
    ]


def bad_webs():
    """Things that are no webs, some of them almost."""
    ties = [
        ((0, 1), (0, 1)), ((1, 2), (0, 1)), ((0, 2), (0, 1)), ((1, 0),), ((1, 1),), ((0, 0),), ((0, 3),), ((2, 3),),
        ((3, 4),), ((-1, 0),), ((-2, -1),), ((0, 10 ** 29),), ((False, True),), ((0, True),), ((False, 1),),
        ((True, 2),), ([0, 1],), ((0, 1), [0, 2]), [(0, 1)], [], ((0, 1, 2),), ((0,),), ((),), (0, 1), (0,), None,
        0, "", "01", ("01",), {}, {(0, 1): True}, ((0, "1"),), (("0", "1"),), ((0, None),), ((None, None),),
        (((0,), (1,)),), (((0, 1),),), ((0, [1]),), (({}, {}),), ((0, 1), None), ((0, 1), "12"),
        ((0, 1), (0, 2), (0, 1)), ((0, 1), (2, 1)), ((0, 1), (1, 2), (1, 2)),
        nested(lambda thing: (thing,), 55), nested(lambda thing: [thing], 55), nested(lambda thing: {0: thing}, 55),
        tuple([(0, 1)] * 3000), tuple([[]] * 9000),
    ]
    many = [61, 62, 1000, 10 ** 29, -1, -(10 ** 29), True, False, "3", "", None, (), [], {}, (3,), [3], ("3",)]
    found = anything() + [(3, each) for each in ties] + [(each, ()) for each in many]
    found += [(0, ((0, 1),)), (1, ((0, 1),)), (1, ((0, 0),)), (60, ((0, 60),)), (60, ((59, 60),)), (61, ((0, 1),))]
    found += [(3,), (3, (), ()), (3, ((0, 1),), ()), [3, ()], {3: ()}, ((), 3), (((0, 1),), 3), (3, (0, 1), (0, 2))]
    return found


def full_ties(many):
    return tuple(itertools.combinations(range(many), 2))


def full(many):
    return (many, full_ties(many))


def path(many):
    return (many, tuple((at, at + 1) for at in range(many - 1)))


def ring(many):
    return (many, tuple(sorted([(at, at + 1) for at in range(many - 1)] + [(0, many - 1)])))


def star(many):
    return (many, tuple((0, at) for at in range(1, many)))


PETERSEN = (10, tuple(sorted(
    [(0, 1), (1, 2), (2, 3), (3, 4), (0, 4), (0, 5), (1, 6), (2, 7), (3, 8), (4, 9)]
    + [(5, 7), (7, 9), (6, 9), (6, 8), (5, 8)])))


def every_choice(many, pairs):
    """So many places, with each choice of some of the pairs."""
    for size in range(len(pairs) + 1):
        for chosen in itertools.combinations(pairs, size):
            yield (many, chosen)


def some_choices(many, pairs, size, times, seed):
    """So many places, with choices of so many of the pairs, the same ones each time."""
    chance = random.Random(seed)
    for _ in range(times):
        yield (many, tuple(sorted(chance.sample(pairs, size))))


def every_web(many):
    """All webs of so many places."""
    return every_choice(many, full_ties(many))


def some_webs(many, ties, times, seed):
    """Webs of so many places and ties."""
    return some_choices(many, full_ties(many), ties, times, seed)


def some_forests(many, ties, times, seed):
    """Forests of so many places and ties, the same ones each time."""
    chance = random.Random(seed)
    for _ in range(times):
        names = chance.sample(range(many), many)
        hung = [(names[at], names[chance.randrange(at)]) for at in range(1, many)]
        yield (many, tuple(sorted((min(pair), max(pair)) for pair in chance.sample(hung, ties))))


def plain_partings(web):
    """All plain partings of a web: one for each set of its ties along which a parting goes."""
    found = []
    for size in range(len(web[1]) + 1):
        for ties in itertools.combinations(web[1], size):
            try:
                found.append(parting_along(web, ties))
            except FewError:
                pass
    return found


def every_places(many):
    """All rising tuples of some of so many places."""
    for size in range(many + 1):
        yield from itertools.combinations(range(many), size)


def bad_places(many):
    """Things that are no rising tuples of some of so many places."""
    found = [thing for thing in anything() if not same(thing, ()) and not (many and same(thing, (0,)))]
    found += [(many,), (0, many), (1, 0), (0, 0), (0, 1, 1), (2, 0, 1), [0, 1], (0, True), (False, 1), (0, "1"),
              (0, None), (0, [1]), ((0,),), (-1, 0), (0, 10 ** 29), {0: 0}]
    return found


def parts_beside(web, places):
    """How many parts a web has without some places, by joining the ends of each tie that is left."""
    of = {place: place for place in range(web[0]) if place not in places}
    for a, b in web[1]:
        if a in of and b in of:
            gone, kept = of[a], of[b]
            of = {place: kept if mark == gone else mark for place, mark in of.items()}
    return len(set(of.values()))


ONE = ("one",)


def wide_plan(word, many):
    return (word, tuple([ONE] * many))


def deep_plan(deep):
    """A plan so deep, with as many `("one",)` in it."""
    plan = ONE
    for at in range(deep - 1):
        plan = (("beside", "across")[at % 2], (ONE, plan) if at % 3 else (plan, ONE))
    return plan


def ones_of(plan):
    return 1 if plan == ONE else sum(ones_of(inner) for inner in plan[1])


def plans_of(many):
    """All plans with just so many `("one",)`."""
    if many == 1:
        yield ONE
        return
    for cuts in every_places(many - 1):
        bounds = [0] + [cut + 1 for cut in cuts] + [many]
        sizes = [high - low for low, high in zip(bounds, bounds[1:])]
        if len(sizes) > 1:
            for inner in itertools.product(*(list(plans_of(size)) for size in sizes)):
                yield ("beside", inner)
                yield ("across", inner)


def some_plans(most):
    """All plans with at most so many `("one",)`."""
    for many in range(1, most + 1):
        yield from plans_of(many)


def drawn_plan(chance, many, deep):
    if many == 1 or deep == 1:
        return ONE if many == 1 else None
    word = chance.choice(("beside", "across"))
    pieces = many if deep == 2 else chance.choice((2, 2, 2, min(3, many), chance.randint(2, many)))
    cuts = sorted(chance.sample(range(1, many), pieces - 1))
    if chance.random() < 0.3 and pieces == 2:
        cuts = [1]
    sizes = [high - low for low, high in zip([0] + cuts, cuts + [many])]
    return (word, tuple(drawn_plan(chance, size, deep - 1) for size in sizes))


def drawn_plans(times, most, seed):
    """Plans with at most so many `("one",)`, the same ones each time."""
    chance = random.Random(seed)
    for at in range(times):
        yield drawn_plan(chance, most if at % 3 == 0 else chance.randint(1, most), 24)


def bad_plans():
    """Things that are no plans, some of them almost."""
    two = ("beside", (ONE, ONE))
    return anything() + [
        ("two",), ("One",), ("one ",), ("",), "one", ["one"], ("one", ()), ("one", "one"), ("one", (ONE, ONE)), (("one",),),
        ("beside",), ("across",), ("beside", ()), ("across", (ONE,)), ("beside", (two,)), ("beside", ONE), ("across", two),
        ("beside", [ONE, ONE]), ["beside", (ONE, ONE)], ("beside", (ONE, ONE), ()), ("beside", (ONE, ONE), ONE),
        ("beside", ONE, ONE), ("Beside", (ONE, ONE)), ("acros", (ONE, ONE)), ("apart", (ONE, ONE)), (None, (ONE, ONE)),
        (0, (ONE, ONE)), (True, (ONE, ONE)), (("beside",), (ONE, ONE)), (["beside"], (ONE, ONE)), ({}, (ONE, ONE)),
        ("beside", (ONE, ["one"])), ("beside", (["one"], ONE)), ("beside", (ONE, "one")), ("beside", (ONE, None)),
        ("beside", (ONE, 1)), ("beside", (ONE, ())), ("beside", (ONE, {})), ("beside", {0: ONE, 1: ONE}),
        ("beside", {ONE: ONE, two: two}), {"beside": (ONE, ONE)}, ("beside", "oneone"), ("beside", None), ("beside", 2),
        ("across", (two, ("beside", (ONE,)))), ("across", (two, ("beside", ()))), ("across", (two, ("other", (ONE, ONE)))),
        ("across", (("other", (ONE, ONE)), two)), ("across", (two, ("beside", (ONE, ("two",))))),
        ("across", (two, two, ["beside", (ONE, ONE)])), (two, two), ((ONE, ONE), "beside"),
        deep_plan(25), deep_plan(26), deep_plan(29), wide_plan("beside", 41), wide_plan("across", 41),
        wide_plan("across", 4000), ("beside", (wide_plan("across", 20), wide_plan("across", 21))),
        nested(lambda thing: ("beside", (thing, ONE)), 28), nested(lambda thing: ("beside", thing), 58),
        nested(lambda thing: ("across", (ONE, [thing])), 19), nested(lambda thing: ["beside", (ONE, thing)], 28),
        nested(lambda thing: {"beside": (ONE, thing)}, 28), ("beside", (deep_plan(24), ONE)), ("beside", (ONE, deep_plan(24))),
        ("beside", (ONE, ONE, deep_plan(24), ONE)),
    ]


def both_arrows(many):
    """All arrows between so many places."""
    return tuple(itertools.permutations(range(many), 2))


def every_one_way(many):
    """All one-way webs of so many places."""
    return every_choice(many, both_arrows(many))


def some_one_ways(many, arrows, times, seed):
    """One-way webs of so many places and arrows."""
    return some_choices(many, both_arrows(many), arrows, times, seed)


def some_ordered(many, arrows, times, seed):
    """One-way webs of so many places and arrows that have an order, the same ones each time."""
    chance = random.Random(seed)
    for _ in range(times):
        names = chance.sample(range(many), many)
        chosen = chance.sample(full_ties(many), arrows)
        yield (many, tuple(sorted((names[low], names[high]) for low, high in chosen)))


def bad_one_ways():
    """Things that are no one-way webs, some of them almost."""
    return [thing for thing in bad_webs() if not same(thing, (3, ((1, 0),)), (3, ((0, 1), (2, 1))))]


def rows_of(many, least):
    """All tuples of unlike ones of so many places, from so many of them on."""
    for size in range(least, many + 1):
        yield from itertools.permutations(range(many), size)


def led_ways(web):
    """All one-way ways of a one-way web."""
    return [row for row in rows_of(web[0], 1) if all(step in web[1] for step in zip(row, row[1:]))]


def led_rings(web):
    """All one-way rings of a one-way web."""
    return [row for row in led_ways(web) if row[0] == min(row) and (row[-1], row[0]) in web[1]]


def both_ways_of(web):
    return (web[0], tuple(sorted(web[1] + tuple((high, low) for low, high in web[1]))))


def written_ways(web):
    """All ways of a web as they are written."""
    return [row for row in led_ways(both_ways_of(web)) if row <= row[::-1]]


def wide_rings(web):
    """All wide rings of a web."""
    return [row for row in led_rings(both_ways_of(web)) if len(row) > 2 and row[1] < row[-1]]


def covers(many, *kinds):
    """All choices of pieces of some kinds, lists of tuples of places, such that each of so many places is on just one
    piece: a list of rising tuples of pieces for each choice, one for each kind."""
    pieces = [(at, piece) for at, kind in enumerate(kinds) for piece in kind]
    by_least = {place: [row for row in pieces if min(row[1]) == place] for place in range(many)}

    def cover(left):
        if not left:
            yield ()
            return
        for at, piece in by_least[min(left)]:
            if left.issuperset(piece):
                for rest in cover(left.difference(piece)):
                    yield ((at, piece),) + rest

    for found in cover(frozenset(range(many))):
        yield tuple(tuple(sorted(piece for at, piece in found if at == kind)) for kind in range(len(kinds)))


def same(thing, *others):
    """Tell whether a thing is one of the others, True and 1 being two."""
    return repr(thing) in [repr(other) for other in others]


def refused(case, kind, call, *handed):
    """The call is refused with just this class."""
    with case.assertRaises(kind, msg=f"{call.__name__} of {str(handed)[:200]}") as caught:
        call(*handed)
    case.assertIs(type(caught.exception), kind, f"{call.__name__} of {str(handed)[:200]}")
