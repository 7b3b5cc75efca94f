"""[72]: spreads, fewest places alone, what places hold out."""

import itertools
import time
import unittest

from fewways.errors import NoPlace, NoWeb
from fewways.spreads import fewest_alone, hold_out, holding_out, is_spread, some_spread
from things import (PETERSEN, anything, bad_places, bad_webs, covers, every_places, every_web, full, full_ties, path,
                    refused, ring, same, some_forests, some_webs, star, wide_rings)

# Two triangles with a place between them, and a place apart.
WEB = (8, ((0, 1), (0, 2), (1, 2), (2, 3), (3, 4), (4, 5), (4, 6), (5, 6)))
WHOLE = tuple(range(60))


def spreads_of(web):
    odd = [each for each in wide_rings(web) if len(each) % 2]
    for alone, ties, rings in covers(web[0], [(place,) for place in range(web[0])], web[1], odd):
        yield (tuple(place for place, in alone), ties, rings)


def held_by_trial(web, places):
    near = [place for place in range(web[0]) if any((min(place, other), max(place, other)) in web[1] for other in places)]
    return len(places) - len(near)


def small_ones():
    return itertools.chain(*(every_web(many) for many in range(5)), some_webs(5, 5, 30, 1), some_webs(5, 7, 20, 2),
                           some_webs(6, 7, 15, 3), some_webs(6, 10, 6, 4), [full(5), ring(5), ring(6), star(6), path(6)])


def odd_rings(*sizes):
    """A web of odd rings that lie side by side."""
    ties = []
    start = 0
    for size in sizes:
        ties += [(start + low, start + high) for low, high in ring(size)[1]]
        start += size
    return (start, tuple(sorted(ties)))


class IsSpread(unittest.TestCase):
    def test_all_of_small_webs(self):
        for web in small_ones():
            for alone, ties, rings in spreads_of(web):
                self.assertIs(is_spread(web, (alone, ties, rings)), True, (web, alone, ties, rings))
                self.assertIs(is_spread(web, (alone[::-1], ties, rings)), len(alone) < 2)
                self.assertIs(is_spread(web, (alone, ties[::-1], rings)), len(ties) < 2)
                self.assertIs(is_spread(web, (alone, ties, rings[::-1])), len(rings) < 2)
                self.assertIs(is_spread(web, (alone[1:], ties, rings)), not alone)
                self.assertIs(is_spread(web, (alone, ties[1:], rings)), not ties)
                self.assertIs(is_spread(web, (alone, ties, rings[1:])), not rings)
                self.assertIs(is_spread(web, (alone, tuple((high, low) for low, high in ties), rings)), not ties)

    def test_just_the_right_choices(self):
        for web in itertools.chain(every_web(3), [full(4), ring(4)]):
            right = list(spreads_of(web))
            ties = [choice for size in range(3) for choice in itertools.permutations(full_ties(web[0]), size)]
            rows = [()] + [(row,) for size in range(1, web[0] + 1) for row in itertools.permutations(range(web[0]), size)]
            for thing in itertools.product(every_places(web[0]), ties, rows):
                if len(thing[0]) + 2 * len(thing[1]) + sum(len(row) for row in thing[2]) <= web[0] + 1:
                    self.assertIs(is_spread(web, thing), thing in right, (web, thing))

    def test_known(self):
        self.assertIs(is_spread((0, ()), ((), (), ())), True)
        self.assertIs(is_spread((1, ()), ((0,), (), ())), True)
        self.assertIs(is_spread((1, ()), ((), (), ())), False)
        for thing in [((3, 7), (), ((0, 1, 2), (4, 5, 6))), ((7,), ((0, 1), (2, 3)), ((4, 5, 6),)),
                      ((0, 1, 2, 3, 4, 5, 6, 7), (), ()), ((1, 3, 6, 7), ((0, 2), (4, 5)), ())]:
            self.assertIs(is_spread(WEB, thing), True, thing)
        self.assertIs(is_spread(full(60), (WHOLE, (), ())), True)
        self.assertIs(is_spread(ring(59), ((), (), (WHOLE[:59],))), True)
        self.assertIs(is_spread(ring(59), ((), (), ((0,) + WHOLE[58:0:-1],))), False)
        self.assertIs(is_spread(ring(60), ((), (), (WHOLE,))), False)
        self.assertIs(is_spread(ring(60), ((), tuple((at, at + 1) for at in range(0, 60, 2)), ())), True)

    def test_rings_of_least_length_and_of_even_length(self):
        self.assertIs(is_spread(full(3), ((), (), ((0, 1, 2),))), True)
        self.assertIs(is_spread(full(4), ((), (), ((0, 1, 2, 3),))), False)
        self.assertIs(is_spread((2, ((0, 1),)), ((), (), ((0, 1),))), False)
        self.assertIs(is_spread((1, ()), ((), (), ((0,),))), False)
        self.assertIs(is_spread(full(5), ((), (), ((0, 1, 2, 3, 4),))), True)
        self.assertIs(is_spread(full(5), ((), (), ((0, 4, 2, 1, 3),))), False)
        self.assertIs(is_spread(full(5), ((), (), ((0, 3, 1, 2, 4),))), True)

    def test_nearly(self):
        alone, ties, rings = (7,), ((0, 1), (2, 3)), ((4, 5, 6),)
        self.assertIs(is_spread(WEB, (alone, ties, rings)), True)
        for thing in [(alone, ties), (alone, ties, rings, ()), [alone, ties, rings], (list(alone), ties, rings),
                      (alone, list(ties), rings), (alone, ties, list(rings)), (alone, ties[::-1], rings),
                      (alone, ((1, 0), (2, 3)), rings), (alone, ((0, 1), [2, 3]), rings), (alone, ties, ([4, 5, 6],)),
                      (alone, ties, ((5, 4, 6),)), (alone, ties, ((4, 6, 5),)), (alone, ties, ((5, 6, 4),)),
                      ((), ties, rings), ((7, 7), ties, rings), ((7, 8), ties, rings), ((3, 7), ties, rings),
                      (((7,),), ties, rings), (("7",), ties, rings), (alone, ((0, True), (2, 3)), rings),
                      (alone, ((False, 1), (2, 3)), rings), (alone, ties, ((4, 5, 6), ())), (alone, ties, rings + rings),
                      (alone, ties + ties, rings), (alone, ((0, 3), (1, 2)), rings), (alone, ((0, 1), (2, 3), (3, 4)), rings),
                      (alone, ((0, 1, 2), (3, 4)), ()), (ties, alone, rings), (rings, ties, alone), {0: alone, 1: ties, 2: rings},
                      (alone, ties, None), (None, ties, rings), (alone, None, rings), (7, ties, rings), (alone, ties, (4, 5, 6)),
                      (alone, (0, 1), rings), (alone + ties + rings,), "7 0-1 2-3 4-5-6", (alone, ties, ((4, 5, 6, 4),))]:
            self.assertIs(is_spread(WEB, thing), False, thing)
        # A ring that goes along what is no tie.
        self.assertIs(is_spread(path(3), ((), (), ((0, 1, 2),))), False)
        self.assertIs(is_spread((2, ()), ((), ((0, 1),), ())), False)

    def test_anything(self):
        for thing in anything():
            for web in (WEB, (0, ()), full(60)):
                self.assertIs(is_spread(web, thing), False)
            self.assertIs(is_spread(WEB, (thing, ((0, 1), (2, 3)), ((4, 5, 6),))), False)
            self.assertIs(is_spread(WEB, ((7,), thing, ((4, 5, 6),))), False)
            self.assertIs(is_spread(WEB, ((7,), ((0, 1), (2, 3)), thing)), False)
            self.assertIs(is_spread((0, ()), (thing, (), ())), same(thing, ()))
            self.assertIs(is_spread((0, ()), ((), thing, ())), same(thing, ()))
            self.assertIs(is_spread((0, ()), ((), (), thing)), same(thing, ()))
        for places in bad_places(8):
            self.assertIs(is_spread(WEB, (places, ((0, 1), (2, 3)), ((4, 5, 6),))), False)


class Fewest(unittest.TestCase):
    def check(self, web):
        """What is told agrees, and places hold out that there are no fewer."""
        few = fewest_alone(web)
        spread = some_spread(web)
        self.assertIs(is_spread(web, spread), True, (web, spread))
        self.assertEqual(len(spread[0]), few, web)
        places = holding_out(web)
        self.assertIs(type(places), tuple)
        self.assertEqual(hold_out(web, places), few, web)
        self.assertEqual(held_by_trial(web, places), few, web)
        return few

    def test_small_ones_against_all_spreads(self):
        for web in small_ones():
            few = self.check(web)
            self.assertEqual(few, min(len(spread[0]) for spread in spreads_of(web)), web)
            self.assertEqual(few, max(held_by_trial(web, places) for places in every_places(web[0])), web)

    def test_known(self):
        self.assertEqual(self.check((0, ())), 0)
        self.assertEqual((some_spread((0, ())), holding_out((0, ()))), (((), (), ()), ()))
        self.assertEqual(self.check((1, ())), 1)
        self.assertEqual(some_spread((1, ())), ((0,), (), ()))
        self.assertEqual(self.check((60, ())), 60)
        self.assertEqual(self.check(path(60)), 0)
        self.assertEqual(self.check(path(59)), 1)
        self.assertEqual(self.check(ring(59)), 0)
        self.assertEqual(some_spread(ring(59)), ((), (), (WHOLE[:59],)))
        self.assertEqual(some_spread(full(3)), ((), (), ((0, 1, 2),)))
        self.assertEqual(self.check(ring(60)), 0)
        self.assertEqual(self.check(star(60)), 58)
        self.assertEqual(self.check(full(60)), 0)
        self.assertEqual(self.check(full(59)), 0)
        self.assertEqual(self.check(PETERSEN), 0)
        self.assertEqual(self.check(WEB), 1)

    def test_odd_rings_side_by_side(self):
        for sizes in [(3, 3), (3, 5, 7), (3,) * 20, (11, 49), (5, 3, 9, 7, 5, 3), (3, 4), (4, 3, 6, 5)]:
            self.assertEqual(self.check(odd_rings(*sizes)), 0)

    def test_many_on_the_one_side(self):
        web = (60, tuple((low, high) for low in range(20) for high in range(20, 60)))
        self.assertEqual(self.check(web), 20)
        web = (50, tuple(sorted(list(full_ties(20)) + [(low, high) for low in range(20) for high in range(20, 50)])))
        self.assertEqual(self.check(web), 10)

    def test_sixty_places_in_reasonable_time(self):
        begun = time.monotonic()
        for ties in (15, 30, 45, 60, 90, 200, 1000, 1700):
            for web in some_webs(60, ties, 4, ties):
                self.check(web)
        for web in some_forests(60, 55, 6, 5):
            self.check(web)
        self.assertLess(time.monotonic() - begun, 40)


class HoldOut(unittest.TestCase):
    def test_all_places_of_small_webs(self):
        for web in small_ones():
            for places in every_places(web[0]):
                self.assertEqual(hold_out(web, places), held_by_trial(web, places))

    def test_known(self):
        self.assertEqual(hold_out((0, ()), ()), 0)
        self.assertEqual(hold_out(WEB, ()), 0)
        self.assertEqual(hold_out(WEB, (7,)), 1)
        self.assertEqual(hold_out(WEB, (4,)), -2)
        # Places that are tied to one another count against themselves.
        self.assertEqual(hold_out(WEB, (0, 1)), -1)
        self.assertEqual(hold_out(WEB, (0, 1, 2)), -1)
        self.assertEqual(hold_out(star(60), WHOLE[1:]), 58)
        self.assertEqual(hold_out(star(60), WHOLE), 0)
        self.assertEqual(hold_out(full(60), (59,)), -58)

    def test_refusals_in_order(self):
        for web in bad_webs() + [(2, ((0, 1), (1, 0))), (2, ((1, 0),))]:
            refused(self, NoWeb, hold_out, web, ())
            refused(self, NoWeb, hold_out, web, None)
        for places in bad_places(8):
            refused(self, NoPlace, hold_out, WEB, places)
        for places in bad_places(0):
            refused(self, NoPlace, hold_out, (0, ()), places)


class Refusals(unittest.TestCase):
    def test_no_web(self):
        for web in bad_webs() + [(2, ((0, 1), (1, 0))), (2, ((1, 0),))]:
            for thing in (((), (), ()), None):
                refused(self, NoWeb, is_spread, web, thing)
            for call in (fewest_alone, some_spread, holding_out):
                refused(self, NoWeb, call, web)


if __name__ == "__main__":
    unittest.main()
