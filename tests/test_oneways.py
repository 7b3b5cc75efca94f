"""[60], [61]: one-way webs, their ways, rings and orders."""

import itertools
import time
import unittest

from fewways.errors import NoOneWay, NoPlace, NoWeb
from fewways.oneways import (both_ways, comes_from, is_led, is_led_ring, is_one_way, leads_to, least_order, some_ring,
                             upward)
from fewways.webs import web_of
from things import (anything, bad_one_ways, bad_webs, both_arrows, every_one_way, every_web, full, full_ties, path, refused,
                    ring, same, some_one_ways, some_ordered, some_webs, star)

WEB = (5, ((0, 1), (1, 2), (2, 0), (2, 3), (3, 2)))


def arrow_ring(order):
    """The one-way web of a ring that leads from each place of an order to the next one."""
    return (len(order), tuple(sorted(zip(order, order[1:] + order[:1]))))


def orders_by_trial(web):
    for order in itertools.permutations(range(web[0])):
        if all(order.index(begin) < order.index(end) for begin, end in web[1]):
            yield order


class IsOneWay(unittest.TestCase):
    def test_one_way_webs(self):
        for web in [(0, ()), (1, ()), (2, ()), (2, ((0, 1),)), (2, ((1, 0),)), (2, ((0, 1), (1, 0))), (60, ((59, 0),)),
                    (60, ((0, 59), (59, 0))), (3, ((0, 1), (2, 1))), (3, ((1, 0), (2, 0), (2, 1))), WEB, full(60),
                    (60, both_arrows(60)), (60, ())]:
            self.assertIs(is_one_way(web), True, web)
        for web in itertools.chain(every_one_way(3), every_web(4)):
            self.assertIs(is_one_way(web), True, web)

    def test_other_things(self):
        for thing in bad_one_ways():
            self.assertIs(is_one_way(thing), False, str(thing)[:200])
        for arrows in [((1, 0), (0, 1)), ((1, 0), (1, 0)), ((0, 0),), ((1, 0), (1, 1)), ((True, 0),), ((1, False),),
                       ((2, 0), (1, 0)), ((2, 0), (2, 0)), ((0, 1), (1, 0), (0, 2)), ([1, 0],), [(1, 0)], ((3, 0),),
                       ((0, -1),), ((1, 0, 2),), ((1,),), ((1, 0), None), (("1", "0"),), ((1, "0"),), {(1, 0): 1}]:
            self.assertIs(is_one_way((3, arrows)), False, arrows)
        arrows = both_arrows(60)
        self.assertIs(is_one_way((59, arrows)), False)
        self.assertIs(is_one_way((60, arrows[:-2] + (arrows[-1], arrows[-2]))), False)
        self.assertIs(is_one_way((60, arrows + arrows[-1:])), False)
        self.assertIs(is_one_way((61, ())), False)


class LeadsAndComes(unittest.TestCase):
    def test_each_place(self):
        self.assertEqual([leads_to(WEB, place) for place in range(5)], [(1,), (2,), (0, 3), (2,), ()])
        self.assertEqual([comes_from(WEB, place) for place in range(5)], [(2,), (0,), (1, 3), (2,), ()])

    def test_none_and_all(self):
        for call in (leads_to, comes_from):
            self.assertEqual(call((1, ()), 0), ())
            for place in (0, 30, 59):
                self.assertEqual(call((60, both_arrows(60)), place), tuple(at for at in range(60) if at != place))
        self.assertEqual(leads_to(full(60), 59), ())
        self.assertEqual(comes_from(full(60), 59), tuple(range(59)))

    def test_against_arrows(self):
        for web in some_one_ways(9, 25, 20, 1):
            for place in range(9):
                self.assertEqual(leads_to(web, place), tuple(at for at in range(9) if (place, at) in web[1]))
                self.assertEqual(comes_from(web, place), tuple(at for at in range(9) if (at, place) in web[1]))

    def test_refusals_in_order(self):
        for call in (leads_to, comes_from):
            for web in bad_one_ways():
                refused(self, NoOneWay, call, web, 0)
                refused(self, NoOneWay, call, web, "0")
            for place in anything() + [5, 60]:
                if not same(place, 0, 1, 3):
                    refused(self, NoPlace, call, WEB, place)
            refused(self, NoPlace, call, (0, ()), 0)
            refused(self, NoPlace, call, full(60), 60)


class OfWebs(unittest.TestCase):
    def test_both_ways(self):
        self.assertEqual(both_ways((0, ())), (0, ()))
        self.assertEqual(both_ways((60, ())), (60, ()))
        self.assertEqual(both_ways((3, ((0, 1), (0, 2)))), (3, ((0, 1), (0, 2), (1, 0), (2, 0))))
        self.assertEqual(both_ways(full(60)), (60, both_arrows(60)))
        for web in some_webs(8, 12, 10, 1):
            told = both_ways(web)
            self.assertIs(is_one_way(told), True)
            self.assertEqual(len(told[1]), 24)
            self.assertEqual(set(told[1]), set(web[1]) | {(high, low) for low, high in web[1]})

    def test_upward(self):
        for web in [(0, ()), (60, ()), path(5), ring(5), full(60)]:
            self.assertEqual(upward(web), web)
            self.assertIs(is_one_way(upward(web)), True)
            self.assertEqual(least_order(upward(web)), tuple(range(web[0])))

    def test_no_web(self):
        for web in bad_webs() + [WEB, (2, ((1, 0),)), (2, ((0, 1), (1, 0)))]:
            refused(self, NoWeb, both_ways, web)
            refused(self, NoWeb, upward, web)


class IsLed(unittest.TestCase):
    def test_all_orders_of_small_webs(self):
        for web in itertools.chain(every_one_way(3), some_one_ways(4, 6, 10, 2), some_one_ways(5, 9, 5, 3)):
            for size in range(1, web[0] + 2):
                for thing in itertools.product(range(web[0]), repeat=size):
                    unlike = len(set(thing)) == size
                    steps = all(step in web[1] for step in zip(thing, thing[1:]))
                    self.assertIs(is_led(web, thing), unlike and steps)
                    closed = size > 1 and (thing[-1], thing[0]) in web[1]
                    self.assertIs(is_led_ring(web, thing), unlike and steps and closed and thing[0] == min(thing))

    def test_known(self):
        for way in [(0,), (4,), (0, 1), (0, 1, 2, 3), (3, 2, 0, 1)]:
            self.assertIs(is_led(WEB, way), True)
        for way in [(1, 0), (0, 2), (3, 2, 1), (0, 1, 2, 0), (2, 3, 2), (4, 0), ()]:
            self.assertIs(is_led(WEB, way), False)
        self.assertIs(is_led(path(60), tuple(range(60))), True)
        self.assertIs(is_led(path(60), tuple(range(59, -1, -1))), False)

    def test_rings(self):
        for thing in [(0, 1, 2), (2, 3)]:
            self.assertIs(is_led_ring(WEB, thing), True)
        for thing in [(1, 2, 0), (2, 0, 1), (3, 2), (0, 2, 1), (0,), (4,), (), (0, 1), (0, 1, 2, 3), (0, 1, 2, 0), (2, 3, 2)]:
            self.assertIs(is_led_ring(WEB, thing), False)
        whole = tuple(range(60))
        self.assertIs(is_led_ring(arrow_ring(whole), whole), True)
        self.assertIs(is_led_ring(arrow_ring(whole), (0,) + whole[:0:-1]), False)
        self.assertIs(is_led_ring(both_ways(ring(60)), (0,) + whole[:0:-1]), True)

    def test_other_things(self):
        nearly = [[0, 1, 2], (False, 1, 2), (0, True, 2), (0, 1, "2"), ("0", "1", "2"), (0, 1, None), (0, 1, [2]), ((0, 1, 2),),
                  (0, (1, 2)), {0: 1}, "012", (0, 1, 2, 5), (-1, 0), (5,), (0, 1, 2, -2), tuple([0, 1, 2] * 3000),
                  ((0, 1), (1, 2))]
        for thing in nearly + anything():
            self.assertIs(is_led_ring(WEB, thing), False, str(thing)[:100])
            if not same(thing, (0,)):
                self.assertIs(is_led(WEB, thing), False, str(thing)[:100])
                self.assertIs(is_led((0, ()), thing), False)
        for thing in anything():
            self.assertIs(is_led((0, ()), thing), False)
            self.assertIs(is_led_ring((0, ()), thing), False)

    def test_no_one_way(self):
        for web in bad_one_ways():
            for call in (is_led, is_led_ring):
                refused(self, NoOneWay, call, web, (0,))
                refused(self, NoOneWay, call, web, None)


class Orders(unittest.TestCase):
    def check(self, web):
        """Just one of both is told, and it is right."""
        order = least_order(web)
        found = some_ring(web)
        self.assertEqual((order is None) + (found is None), 1, web)
        if order is None:
            self.assertIs(is_led_ring(web, found), True, (web, found))
        else:
            self.assertIs(type(order), tuple)
            self.assertEqual(sorted(order), list(range(web[0])))
            at = {place: seat for seat, place in enumerate(order)}
            self.assertTrue(all(at[begin] < at[end] for begin, end in web[1]))
        return order

    def test_small_ones_against_all_orders(self):
        webs = itertools.chain(*(every_one_way(many) for many in range(4)), some_one_ways(4, 4, 60, 4),
                               some_one_ways(5, 5, 60, 5), some_ordered(6, 6, 20, 6), some_ordered(7, 8, 6, 7))
        for web in webs:
            self.assertEqual(self.check(web), min(orders_by_trial(web), default=None), web)

    def test_known(self):
        self.assertEqual((least_order((0, ())), some_ring((0, ()))), ((), None))
        self.assertEqual((least_order((1, ())), some_ring((1, ()))), ((0,), None))
        self.assertEqual((least_order((2, ((0, 1), (1, 0)))), some_ring((2, ((0, 1), (1, 0))))), (None, (0, 1)))
        self.assertEqual(least_order((4, ((3, 0),))), (1, 2, 3, 0))
        self.assertEqual(least_order((4, ((2, 1), (3, 0)))), (2, 1, 3, 0))
        self.assertEqual(some_ring((5, ((0, 1), (1, 2), (2, 3), (3, 4), (4, 2)))), (2, 3, 4))
        self.assertEqual(some_ring((6, ((0, 5), (1, 2), (3, 4), (4, 1), (4, 5), (5, 3)))), (3, 4, 5))

    def test_rings_with_places_ahead_and_behind(self):
        for rows in [(7, ((0, 3), (3, 5), (5, 1), (1, 3), (1, 6), (6, 2), (4, 0))),
                     (6, ((0, 1), (1, 0), (1, 2), (2, 3), (3, 2), (3, 4), (4, 5)))]:
            self.check((rows[0], tuple(sorted(rows[1]))))

    def test_sixty_places_in_reasonable_time(self):
        begun = time.monotonic()
        turned = (60, tuple(sorted((high, low) for low, high in full_ties(60))))
        self.assertEqual(self.check(turned), tuple(range(59, -1, -1)))
        self.assertEqual(self.check(full(60)), tuple(range(60)))
        self.assertEqual(self.check((60, ())), tuple(range(60)))
        self.assertIsNone(self.check((60, both_arrows(60))))
        self.assertIsNone(self.check(both_ways(path(60))))
        self.assertIsNone(self.check(both_ways(star(60))))
        zigzag = tuple(at // 2 if at % 2 else 59 - at // 2 for at in range(60))
        self.assertIsNone(self.check(arrow_ring(zigzag)))
        self.assertEqual(some_ring(arrow_ring(zigzag)), zigzag[zigzag.index(0):] + zigzag[:zigzag.index(0)])
        for arrows in (20, 60, 200, 1500):
            for web in some_ordered(60, arrows, 4, arrows):
                self.assertIsNotNone(self.check(web))
        for arrows in (30, 50, 60, 80, 300, 3000):
            for web in some_one_ways(60, arrows, 4, arrows):
                self.check(web)
        # Long rows of places that lead to a ring, and from it.
        tailed = web_of(60, [(at, at + 1) for at in range(59)])
        self.assertEqual(some_ring((60, tuple(sorted(tailed[1] + ((30, 28),))))), (28, 29, 30))
        self.assertLess(time.monotonic() - begun, 20)

    def test_no_one_way(self):
        for web in bad_one_ways():
            refused(self, NoOneWay, least_order, web)
            refused(self, NoOneWay, some_ring, web)


if __name__ == "__main__":
    unittest.main()
