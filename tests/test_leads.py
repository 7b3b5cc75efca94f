"""[63], [64]: one-way partings, their pairs, fewest ways, way papers."""

import itertools
import time
import unittest

from fewways.errors import NoOneWay, NoOrder, NoParting
from fewways.leads import (is_led_parting, is_way_paper, led_fewest, led_parting, pairs_along, some_led, way_paper)
from fewways.oneways import both_ways
from fewways.pairs import is_marks, is_pairs
from things import (anything, bad_one_ways, bad_places, both_arrows, covers, every_one_way, every_places, full, full_ties,
                    led_rings, led_ways, path, refused, ring, same, some_one_ways, some_ordered, star)

RINGED = (5, ((0, 1), (1, 2), (2, 0), (2, 3), (3, 2)))
WEB = (5, ((0, 2), (1, 2), (2, 3), (2, 4)))
NO_ORDERS = [RINGED, (2, ((0, 1), (1, 0))), both_ways(path(60)), (60, both_arrows(60)), (3, ((0, 1), (1, 2), (2, 0)))]


def led_partings(web):
    return [ways for ways, in covers(web[0], led_ways(web))]


def arrows_of(parting):
    return tuple(sorted(step for way in parting for step in zip(way, way[1:])))


def small_ones():
    return itertools.chain(*(every_one_way(many) for many in range(4)), some_one_ways(4, 5, 20, 1),
                           some_one_ways(5, 8, 5, 2), small_ordered())


def small_ordered():
    return itertools.chain(some_ordered(4, 3, 15, 3), some_ordered(4, 5, 10, 4), [full(4), (4, ()), WEB, (5, ())],
                           some_ordered(5, 5, 10, 5), some_ordered(6, 7, 5, 6))


def all_ordered():
    """All small ones that have an order."""
    for web in small_ones():
        if not led_rings(web):
            yield web


class IsLedParting(unittest.TestCase):
    def test_all_of_small_webs(self):
        for web in small_ones():
            for parting in led_partings(web):
                self.assertIs(is_led_parting(web, parting), True, (web, parting))
                self.assertIs(is_led_parting(web, parting[::-1]), len(parting) < 2)
                self.assertIs(is_led_parting(web, parting[1:]), False if web[0] else True)
                self.assertIs(is_led_parting(web, parting + parting[:1]), web[0] == 0)
                self.assertIs(is_led_parting(web, list(parting)), False)

    def test_just_the_rising_choices_of_ways(self):
        for web in itertools.chain(every_one_way(2), some_one_ways(3, 4, 6, 7)):
            right = led_partings(web)
            rows = list(itertools.chain(*(itertools.permutations(range(web[0]), size) for size in range(web[0] + 1))))
            for size in range(4):
                for thing in itertools.product(rows, repeat=size):
                    self.assertIs(is_led_parting(web, thing), thing in right, (web, thing))

    def test_known(self):
        for thing in [((0, 1, 2, 3), (4,)), ((0, 1), (2, 3), (4,)), ((0,), (1,), (2,), (3,), (4,)), ((2, 0, 1), (3,), (4,)),
                      ((1,), (3, 2, 0), (4,))]:
            self.assertIs(is_led_parting(RINGED, thing), True, thing)
        whole = tuple(range(60))
        self.assertIs(is_led_parting(path(60), (whole,)), True)
        self.assertIs(is_led_parting(path(60), (whole[::-1],)), False)
        self.assertIs(is_led_parting(both_ways(path(60)), (whole[::-1],)), True)
        self.assertIs(is_led_parting((60, ()), tuple((place,) for place in whole)), True)
        self.assertIs(is_led_parting((0, ()), ()), True)
        self.assertIs(is_led_parting((1, ()), ()), False)
        self.assertIs(is_led_parting((1, ()), ((0,),)), True)

    def test_nearly(self):
        for thing in [((4,), (0, 1, 2, 3)), ((0, 1, 2, 3),), ((0, 1, 2, 3), (4,), (4,)), ((0, 1, 2, 3), (3,), (4,)),
                      ((0, 1, 2, 3), (4,), ()), ((), (0, 1, 2, 3), (4,)), [(0, 1, 2, 3), (4,)], ([0, 1, 2, 3], (4,)),
                      ((0, 1, 2, 3), [4]), ((0, True, 2, 3), (4,)), ((False, 1, 2, 3), (4,)), ((0, 1, 2, 3), 4),
                      ((0, 1, 2, 3), (4, 5)), ((0, 1, 2, 3), (4,), (5,)), ((-1, 0, 1, 2, 3), (4,)), ((1, 0), (2, 3), (4,)),
                      ((0, 1, 2, 3), ("4",)), ((0, 1, 2, 3), "4"), ((0, 1, 2, 3), (4,), None), ((0, 1, 2, 3, 4),),
                      (0, 1, 2, 3, 4), (((0, 1, 2, 3), (4,)),), {(0, 1, 2, 3): (4,)}, "0>1>2>3 4", ((0, 1, 2, 3, 2), (4,)),
                      tuple([(0, 1, 2, 3), (4,)] * 800)]:
            self.assertIs(is_led_parting(RINGED, thing), False, str(thing)[:100])

    def test_anything(self):
        for thing in anything():
            self.assertIs(is_led_parting(RINGED, thing), False, str(thing)[:100])
            self.assertIs(is_led_parting((0, ()), thing), same(thing, ()))
            self.assertIs(is_led_parting((60, both_arrows(60)), thing), False)


class Pairs(unittest.TestCase):
    def test_small_webs(self):
        for web in small_ones():
            for parting in led_partings(web):
                told = pairs_along(web, parting)
                self.assertEqual(told, arrows_of(parting))
                self.assertIs(is_pairs(web, told), True)
                self.assertEqual(len(told), web[0] - len(parting))

    def test_known(self):
        self.assertEqual(pairs_along(RINGED, ((1,), (3, 2, 0), (4,))), ((2, 0), (3, 2)))
        self.assertEqual(pairs_along((0, ()), ()), ())
        self.assertEqual(pairs_along((60, ()), tuple((place,) for place in range(60))), ())
        self.assertEqual(pairs_along(path(60), (tuple(range(60)),)), path(60)[1])

    def test_refusals_in_order(self):
        for web in bad_one_ways():
            refused(self, NoOneWay, pairs_along, web, ())
            refused(self, NoOneWay, pairs_along, web, None)
        for thing in anything() + [((4,), (0, 1, 2, 3)), ((0, 1, 2, 3),), ((0, True, 2, 3), (4,)), [(0, 1, 2, 3), (4,)],
                                   ((0, 1, 2), (3,), (4,), (4,)), ((1, 0), (2, 3), (4,)), ((0, 1, 2, 3), (4,), ())]:
            refused(self, NoParting, pairs_along, RINGED, thing)
        for thing in anything():
            if not same(thing, ()):
                refused(self, NoParting, pairs_along, (0, ()), thing)


class OfPairs(unittest.TestCase):
    def test_all_pairs_of_small_ordered_webs(self):
        for web in all_ordered():
            by_arrows = {arrows_of(parting): parting for parting in led_partings(web)}
            self.assertEqual(len(by_arrows), len(led_partings(web)))
            for size in range(min(web[0], len(web[1])) + 1):
                for arrows in itertools.combinations(web[1], size):
                    self.assertEqual(is_pairs(web, arrows), arrows in by_arrows)
                    if arrows in by_arrows:
                        self.assertEqual(led_parting(web, arrows), by_arrows[arrows])
                    else:
                        refused(self, NoParting, led_parting, web, arrows)

    def test_known(self):
        self.assertEqual(led_parting(WEB, ((1, 2), (2, 4))), ((0,), (1, 2, 4), (3,)))
        self.assertEqual(led_parting(WEB, ()), ((0,), (1,), (2,), (3,), (4,)))
        self.assertEqual(led_parting((0, ()), ()), ())
        self.assertEqual(led_parting((1, ()), ()), ((0,),))
        self.assertEqual(led_parting(path(60), path(60)[1]), (tuple(range(60)),))
        turned = (60, tuple(sorted((high, low) for low, high in full_ties(60))))
        row = tuple((at + 1, at) for at in range(59))
        self.assertEqual(led_parting(turned, row), (tuple(range(59, -1, -1)),))
        self.assertEqual(led_parting((3, ((1, 0), (2, 0))), ((2, 0),)), ((1,), (2, 0)))

    def test_wrong_pairs(self):
        for thing in [((2, 3), (1, 2)), ((1, 2), (1, 2)), ((0, 2), (1, 2)), ((2, 3), (2, 4)), ((0, 1),), ((2, 1),), [(1, 2)],
                      ([1, 2],), ((True, 2),), ((1, 2), None), ((1, "2"),), ((1, 2, 3),), (1, 2), ((1, 5),), ((1, 1),)]:
            refused(self, NoParting, led_parting, WEB, thing)
        for thing in anything():
            if not same(thing, ()):
                refused(self, NoParting, led_parting, WEB, thing)
                refused(self, NoParting, led_parting, (0, ()), thing)


class Fewest(unittest.TestCase):
    def check(self, web):
        """What is told agrees, and the paper shows that no fewer do."""
        few = led_fewest(web)
        parting = some_led(web)
        self.assertIs(is_led_parting(web, parting), True, web)
        self.assertEqual(len(parting), few, web)
        paper = way_paper(web)
        self.assertIs(type(paper), tuple)
        self.assertIs(is_way_paper(web, paper), True, web)
        self.assertIs(is_led_parting(web, paper[0]), True)
        self.assertIs(is_marks(web, paper[1]), True)
        self.assertEqual(len(paper[0]), few, web)
        self.assertEqual(len(paper[1][0]) + len(paper[1][1]), web[0] - few, web)
        return few

    def test_small_ones_against_all_partings(self):
        for web in all_ordered():
            self.assertEqual(self.check(web), min(len(parting) for parting in led_partings(web)), web)

    def test_known(self):
        self.assertEqual(self.check((0, ())), 0)
        self.assertEqual(some_led((0, ())), ())
        self.assertEqual(way_paper((0, ())), ((), ((), ())))
        self.assertEqual(self.check((1, ())), 1)
        self.assertEqual(self.check((60, ())), 60)
        self.assertEqual(self.check(path(60)), 1)
        self.assertEqual(self.check(full(60)), 1)
        self.assertEqual(self.check(ring(60)), 1)
        self.assertEqual(self.check(star(60)), 59)
        self.assertEqual(self.check(WEB), 3)
        self.assertEqual(self.check((60, tuple((low, high) for low in range(25) for high in range(25, 60)))), 35)

    def test_sixty_places_in_reasonable_time(self):
        begun = time.monotonic()
        for arrows in (20, 60, 90, 150, 400, 1700):
            for web in some_ordered(60, arrows, 4, arrows):
                self.check(web)
        self.assertLess(time.monotonic() - begun, 30)


class WayPapers(unittest.TestCase):
    def test_all_of_small_webs(self):
        for web in itertools.chain(every_one_way(2), some_ordered(3, 2, 6, 8), [full(3), (3, ()), (4, ((0, 2), (1, 2), (2, 3)))]):
            if led_rings(web):
                continue
            every = list(every_places(web[0]))
            for parting in led_partings(web):
                for marks in itertools.product(every, every):
                    right = all(begin in marks[0] or end in marks[1] for begin, end in web[1])
                    right = right and len(marks[0]) + len(marks[1]) == web[0] - len(parting)
                    self.assertIs(is_way_paper(web, (parting, marks)), right, (web, parting, marks))

    def test_nearly(self):
        parting = ((0, 2, 3), (1,), (4,))
        marks = ((2,), (2,))
        self.assertIs(is_way_paper(WEB, (parting, marks)), True)
        for thing in [(marks, parting), (parting,), (parting, marks, ()), [parting, marks], (parting, list(marks)),
                      (list(parting), marks), (parting, ((2,), [2])), (parting, ((2,),)), (parting, ((2,), (3,))),
                      (parting, ((0, 1), ())), (parting, ((0, 1, 2), ())), (parting[::-1], marks), (parting[1:], marks),
                      (((0, 2), (1,), (3,), (4,)), marks), (parting, ((2,), (True,))), (((False, 2, 3), (1,), (4,)), marks),
                      (parting, ()), ((), marks), (parting, None), (None, marks), {parting: marks}, (parting, ((2,), (2, 5))),
                      (((0, 2, 4), (3,), (1,)), marks)]:
            self.assertIs(is_way_paper(WEB, thing), False, thing)

    def test_more_ways_need_fewer_marks_than_there_are(self):
        self.assertIs(is_way_paper((2, ((0, 1),)), (((0,), (1,)), ((), ()))), False)
        self.assertIs(is_way_paper((2, ((0, 1),)), (((0, 1),), ((0,), ()))), True)
        self.assertIs(is_way_paper((2, ((0, 1),)), (((0, 1),), ((), (1,)))), True)
        self.assertIs(is_way_paper((2, ((0, 1),)), (((0, 1),), ((0,), (1,)))), False)
        self.assertIs(is_way_paper((2, ()), (((0,), (1,)), ((), ()))), True)
        self.assertIs(is_way_paper((0, ()), ((), ((), ()))), True)
        self.assertIs(is_way_paper((0, ()), ((), ())), False)

    def test_anything(self):
        for thing in anything():
            self.assertIs(is_way_paper(WEB, thing), False)
            self.assertIs(is_way_paper((0, ()), thing), False)
            self.assertIs(is_way_paper(WEB, (thing, ((2,), (2,)))), False)
            self.assertIs(is_way_paper(WEB, (((0, 2, 3), (1,), (4,)), thing)), False)
        for places in bad_places(5):
            self.assertIs(is_way_paper(WEB, (((0, 2, 3), (1,), (4,)), ((2,), places))), False)


class Refusals(unittest.TestCase):
    def test_no_one_way(self):
        for web in bad_one_ways():
            for thing in ((), None):
                refused(self, NoOneWay, is_led_parting, web, thing)
                refused(self, NoOneWay, led_parting, web, thing)
                refused(self, NoOneWay, is_way_paper, web, thing)
            for call in (led_fewest, some_led, way_paper):
                refused(self, NoOneWay, call, web)

    def test_no_order_ahead_of_all_else(self):
        for web in NO_ORDERS:
            for thing in ((), None, ((0, 1),), [], ((), ((), ()))):
                refused(self, NoOrder, led_parting, web, thing)
                refused(self, NoOrder, is_way_paper, web, thing)
            for call in (led_fewest, some_led, way_paper):
                refused(self, NoOrder, call, web)

    def test_all_small_ones_without_an_order(self):
        for web in itertools.chain(every_one_way(3), some_one_ways(4, 6, 20, 9)):
            if led_rings(web):
                refused(self, NoOrder, led_fewest, web)
                refused(self, NoOrder, led_parting, web, ())

    def test_one_way_partings_need_no_order(self):
        for web in NO_ORDERS:
            alone = tuple((place,) for place in range(web[0]))
            self.assertIs(is_led_parting(web, alone), True)
            self.assertEqual(pairs_along(web, alone), ())


if __name__ == "__main__":
    unittest.main()
