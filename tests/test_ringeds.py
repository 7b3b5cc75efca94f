"""[73]: ringed partings, and the least of those to fewest ways."""

import itertools
import time
import unittest

from fewways.errors import NoWeb, TooMany
from fewways.ringeds import is_ringed, ringed_fewest, ringed_least
from fewways.spreads import fewest_alone
from fewways.trial import fewest
from things import (anything, bad_webs, covers, every_web, full, path, refused, ring, same, some_webs, star, wide_rings,
                    written_ways)

WEB = (8, ((0, 1), (0, 2), (1, 2), (2, 3), (3, 4), (4, 5), (4, 6), (5, 6)))
WHOLE = tuple(range(60))
CUBE = (8, tuple(sorted((low, low + bit) for bit in (1, 2, 4) for low in range(8) if not low & bit)))


def ringeds_of(web):
    return covers(web[0], written_ways(web), wide_rings(web))


def small_ones():
    return itertools.chain(*(every_web(many) for many in range(5)), some_webs(5, 6, 20, 1), some_webs(5, 8, 8, 2),
                           some_webs(6, 8, 8, 3), [full(5), ring(5), ring(6), star(6), path(6)])


class IsRinged(unittest.TestCase):
    def test_all_of_small_webs(self):
        for web in itertools.chain(*(every_web(many) for many in range(5)), some_webs(5, 6, 10, 1), [ring(5)]):
            for ways, rings in ringeds_of(web):
                self.assertIs(is_ringed(web, (ways, rings)), True, (web, ways, rings))
                self.assertIs(is_ringed(web, (ways[::-1], rings)), len(ways) < 2)
                turned = tuple(sorted(way[::-1] for way in ways))
                self.assertIs(is_ringed(web, (turned, rings)), turned == ways)
                self.assertIs(is_ringed(web, (ways[1:], rings)), not ways)
                self.assertIs(is_ringed(web, (ways, rings[1:])), not rings)
                self.assertIs(is_ringed(web, (ways, tuple(each[:1] + each[:0:-1] for each in rings))), not rings)
                self.assertIs(is_ringed(web, (ways, tuple(each[1:] + each[:1] for each in rings))), not rings)

    def test_just_the_right_choices(self):
        for web in itertools.chain(every_web(3), [full(4), ring(4)]):
            right = list(ringeds_of(web))
            rows = [row for size in range(web[0] + 1) for row in itertools.permutations(range(web[0]), size)]
            sides = [side for size in range(3) for side in itertools.product(rows, repeat=size)
                     if sum(len(row) for row in side) <= web[0]]
            for ways in sides:
                for rings in [()] + [(row,) for row in rows]:
                    if sum(len(row) for row in ways + rings) <= web[0]:
                        self.assertIs(is_ringed(web, (ways, rings)), (ways, rings) in right, (web, ways, rings))

    def test_rings_of_least_length(self):
        self.assertIs(is_ringed(full(3), ((), ((0, 1, 2),))), True)
        self.assertIs(is_ringed((2, ((0, 1),)), ((), ((0, 1),))), False)
        self.assertIs(is_ringed((2, ((0, 1),)), (((0, 1),), ())), True)
        self.assertIs(is_ringed((1, ()), ((), ((0,),))), False)
        self.assertIs(is_ringed((1, ()), (((0,),), ())), True)
        self.assertIs(is_ringed((0, ()), ((), ())), True)
        self.assertIs(is_ringed((1, ()), ((), ())), False)

    def test_of_however_many_places(self):
        self.assertIs(is_ringed(ring(60), ((), (WHOLE,))), True)
        self.assertIs(is_ringed(ring(60), ((WHOLE,), ())), True)
        self.assertIs(is_ringed(ring(60), ((WHOLE[::-1],), ())), False)
        self.assertIs(is_ringed(ring(60), ((), ((0,) + WHOLE[:0:-1],))), False)
        self.assertIs(is_ringed(path(60), ((), (WHOLE,))), False)
        self.assertIs(is_ringed(full(60), ((), tuple((at, at + 1, at + 2) for at in range(0, 60, 3)))), True)
        self.assertIs(is_ringed(full(60), ((), tuple((at, at + 1) for at in range(0, 60, 2)))), False)
        self.assertIs(is_ringed((60, ()), (tuple((place,) for place in WHOLE), ())), True)
        self.assertIs(is_ringed(full(9), (((0, 1),), ((2, 4, 5), (3, 6, 7, 8)))), True)

    def test_nearly(self):
        web = (8, WEB[1] + ((5, 7), (6, 7)))
        ways, rings = ((3,), (4,)), ((0, 1, 2), (5, 6, 7))
        self.assertIs(is_ringed(web, (ways, rings)), True)
        for thing in [(ways,), (ways, rings, ()), [ways, rings], (list(ways), rings), (ways, list(rings)), (rings, ways),
                      (ways[::-1], rings), (ways, rings[::-1]), (ways, ((0, 2, 1), (5, 6, 7))), (ways, ((1, 0, 2), (5, 6, 7))),
                      (ways, ([0, 1, 2], (5, 6, 7))), (([3],) + ways[1:], rings), (ways, ((0, True, 2), (5, 6, 7))),
                      (ways, ((False, 1, 2), (5, 6, 7))), (((4, 3),), rings), (((3, 4), (4,)), rings), (ways, rings + ((),)),
                      (((),) + ways, rings), (ways, rings[:1]), (ways[:1], rings), (ways, rings + rings), (ways + rings, ()), ((), ways + rings),
                      ((3, 4), rings), (ways, (0, 1, 2, 5, 6, 7)), (("3", "4"), rings), (ways + ((8,),), rings),
                      (ways, None), (None, rings), {ways: rings}, (ways + rings,), "3 4", ((3,), (4,), (0, 1, 2), (5, 6, 7))]:
            self.assertIs(is_ringed(web, thing), False, thing)
        self.assertIs(is_ringed(web, (((3, 4),), rings)), True)
        self.assertIs(is_ringed(web, (((0, 1, 2), (3,), (4,), (5, 6, 7)), ())), True)

    def test_anything(self):
        for thing in anything():
            for web in (WEB, (0, ()), full(60)):
                self.assertIs(is_ringed(web, thing), False)
            self.assertIs(is_ringed((0, ()), (thing, ())), same(thing, ()))
            self.assertIs(is_ringed((0, ()), ((), thing)), same(thing, ()))
            self.assertIs(is_ringed(full(3), (thing, ((0, 1, 2),))), same(thing, ()))
            self.assertIs(is_ringed(full(3), (((0, 1, 2),), thing)), same(thing, ()))


class Least(unittest.TestCase):
    def check(self, web):
        least = ringed_least(web)
        few = ringed_fewest(web)
        self.assertIs(is_ringed(web, least), True, (web, least))
        self.assertEqual(len(least[0]), few, web)
        self.assertLessEqual(few, fewest(web), web)
        self.assertGreaterEqual(few, fewest_alone(web), web)
        return few, least

    def by_trial(self, web):
        return min((len(ways), (ways, rings)) for ways, rings in ringeds_of(web))

    def test_small_ones_against_all(self):
        for web in small_ones():
            self.assertEqual(self.check(web), self.by_trial(web), web)

    def test_some_of_seven_and_eight_against_all(self):
        for web in itertools.chain(some_webs(7, 9, 4, 4), some_webs(7, 11, 2, 5), some_webs(8, 10, 2, 6), [WEB, CUBE]):
            self.assertEqual(self.check(web), self.by_trial(web), web)

    def test_known(self):
        self.assertEqual(self.check((0, ())), (0, ((), ())))
        self.assertEqual(self.check((1, ())), (1, (((0,),), ())))
        self.assertEqual(self.check((2, ((0, 1),))), (1, (((0, 1),), ())))
        self.assertEqual(self.check((8, ())), (8, (tuple((place,) for place in range(8)), ())))
        self.assertEqual(self.check(full(3)), (0, ((), ((0, 1, 2),))))
        self.assertEqual(self.check(ring(8)), (0, ((), (tuple(range(8)),))))
        self.assertEqual(self.check(path(8)), (1, ((tuple(range(8)),), ())))
        self.assertEqual(self.check(star(8)), (6, (((1,), (2,), (3,), (4,), (5,), (6, 0, 7)), ())))
        self.assertEqual(self.check(WEB), (2, (((0, 1, 2, 3), (7,)), ((4, 5, 6),))))

    def test_several_rings_go_ahead_of_one_where_they_are_less(self):
        # (0, 1, 2) is less than (0, 1, 2, 3, 4, 5), of which it is the beginning.
        self.assertEqual(ringed_least(full(6)), ((), ((0, 1, 2), (3, 4, 5))))
        self.assertEqual(ringed_least(full(7)), ((), ((0, 1, 2), (3, 4, 5, 6))))
        self.assertEqual(ringed_least(full(8)), ((), ((0, 1, 2), (3, 4, 5, 6, 7))))
        self.assertEqual(ringed_least(full(5)), ((), ((0, 1, 2, 3, 4),)))

    def test_ways_are_compared_ahead_of_rings(self):
        # One way is left in both: here (0,) with a ring is less than (0, 1, 2, 3).
        self.assertEqual(ringed_least((4, ((0, 1), (1, 2), (1, 3), (2, 3)))), (((0,),), ((1, 2, 3),)))
        # With 3 alone outside of the ring the way through all is less.
        self.assertEqual(ringed_least((4, ((0, 1), (0, 2), (1, 2), (2, 3)))), (((0, 1, 2, 3),), ()))

    def test_eight_places_in_reasonable_time(self):
        begun = time.monotonic()
        for ties in (8, 12, 16, 20, 24, 27):
            for web in some_webs(8, ties, 3, ties):
                self.check(web)
        self.check(full(8))
        self.assertLess(time.monotonic() - begun, 30)


class Refusals(unittest.TestCase):
    def test_no_web(self):
        for web in bad_webs() + [(2, ((0, 1), (1, 0))), (2, ((1, 0),))]:
            for thing in (((), ()), None):
                refused(self, NoWeb, is_ringed, web, thing)
            refused(self, NoWeb, ringed_fewest, web)
            refused(self, NoWeb, ringed_least, web)

    def test_too_many(self):
        for web in [(9, ()), path(9), full(9), full(60), (60, ()), (10, ())]:
            refused(self, TooMany, ringed_fewest, web)
            refused(self, TooMany, ringed_least, web)
        for web in [(9, ((1, 0),)), (9, [()]), (61, ()), (9, ((0, 9),))]:
            refused(self, NoWeb, ringed_fewest, web)
            refused(self, NoWeb, ringed_least, web)


if __name__ == "__main__":
    unittest.main()
