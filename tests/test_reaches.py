"""[82], [83]: what places reach, runs, places apart, shelves, longest one-way ways."""

import itertools
import time
import unittest

from fewways.errors import NoOneWay, NoOrder
from fewways.leads import is_led_parting, led_fewest
from fewways.oneways import both_ways, is_one_way, least_order
from fewways.reaches import (fewest_runs, is_apart, is_run_paper, longest, most_apart, reach, shelves, some_runs)
from things import (anything, bad_one_ways, bad_places, both_arrows, covers, every_one_way, every_places, full, full_ties,
                    led_rings, led_ways, path, refused, same, some_ordered, star)

# Two rows of arrows that cross at a place, and a place apart.
WEB = (6, ((0, 2), (1, 2), (2, 3), (2, 4)))
WHOLE = tuple(range(60))
NO_ORDERS = [(2, ((0, 1), (1, 0))), (3, ((0, 1), (1, 2), (2, 0))), both_ways(path(60)), (60, both_arrows(60))]


def small_ones():
    """Small one-way webs that have an order."""
    for web in itertools.chain(*(every_one_way(many) for many in range(4)), some_ordered(4, 3, 20, 1), some_ordered(4, 5, 10, 2),
                               [full(4), (5, ()), path(5), WEB], some_ordered(5, 5, 20, 3), some_ordered(6, 7, 15, 4)):
        if not led_rings(web):
            yield web


def reach_by_ways(web):
    return (web[0], tuple(sorted({(way[0], way[-1]) for way in led_ways(web) if len(way) > 1})))


def all_apart(web):
    """All places of a one-way web that are apart."""
    reached = set(reach_by_ways(web)[1])
    return [places for places in every_places(web[0]) if not reached & set(itertools.permutations(places, 2))]


def rows(*sizes):
    """Rows of arrows that lie side by side."""
    arrows = []
    start = 0
    for size in sizes:
        arrows += [(at, at + 1) for at in range(start, start + size - 1)]
        start += size
    return (start, tuple(arrows))


class Reach(unittest.TestCase):
    def test_small_ones_against_all_ways(self):
        for web in small_ones():
            self.assertEqual(reach(web), reach_by_ways(web), web)

    def test_known(self):
        self.assertEqual(reach((0, ())), (0, ()))
        self.assertEqual(reach((60, ())), (60, ()))
        self.assertEqual(reach(path(60)), full(60))
        self.assertEqual(reach(full(60)), full(60))
        turned = (60, tuple((at + 1, at) for at in range(59)))
        self.assertEqual(reach(turned), (60, tuple(sorted((high, low) for low, high in full_ties(60)))))
        self.assertEqual(reach(WEB), (6, ((0, 2), (0, 3), (0, 4), (1, 2), (1, 3), (1, 4), (2, 3), (2, 4))))
        self.assertEqual(reach(star(60)), star(60))

    def test_the_reach_of_the_reach_is_itself(self):
        for arrows in (30, 80, 300):
            for web in some_ordered(60, arrows, 3, arrows):
                told = reach(web)
                self.assertIs(is_one_way(told), True)
                self.assertEqual(reach(told), told)
                self.assertLessEqual(set(web[1]), set(told[1]))
                self.assertEqual(least_order(told), least_order(web))


class IsApart(unittest.TestCase):
    def test_all_places_of_small_webs(self):
        for web in small_ones():
            right = all_apart(web)
            for places in every_places(web[0]):
                self.assertIs(is_apart(web, places), places in right, (web, places))

    def test_known(self):
        for places in [(), (0,), (0, 1), (3, 4), (0, 1, 5), (3, 4, 5)]:
            self.assertIs(is_apart(WEB, places), True, places)
        for places in [(0, 3), (0, 2), (1, 4), (0, 1, 4), (0, 1, 2, 3, 4, 5)]:
            self.assertIs(is_apart(WEB, places), False, places)
        self.assertIs(is_apart((0, ()), ()), True)
        self.assertIs(is_apart((60, ()), WHOLE), True)
        self.assertIs(is_apart(path(60), (0, 59)), False)
        self.assertIs(is_apart(path(60), (59,)), True)
        # An arrow may lead down.
        self.assertIs(is_apart((3, ((1, 0), (2, 1))), (0, 2)), False)

    def test_wrong_things(self):
        for thing in bad_places(6) + [(1, 0), (0, 0), (0, 1, 1), [0, 1], (0, True), (False, 1), (6,), (-1,), ((0, 1),), "01"]:
            self.assertIs(is_apart(WEB, thing), False, str(thing)[:100])
        for thing in anything():
            self.assertIs(is_apart(WEB, thing), same(thing, (), (0,)), str(thing)[:100])
            self.assertIs(is_apart((0, ()), thing), same(thing, ()))


class Runs(unittest.TestCase):
    def check(self, web):
        """What is told agrees, so that there are no fewer runs and no more places apart."""
        few = fewest_runs(web)
        runs = some_runs(web)
        apart = most_apart(web)
        self.assertIs(is_led_parting(reach(web), runs), True, (web, runs))
        self.assertIs(is_apart(web, apart), True, (web, apart))
        self.assertEqual((len(runs), len(apart)), (few, few), web)
        self.assertIs(is_run_paper(web, (runs, apart)), True, web)
        return few

    def test_small_ones_against_all(self):
        for web in small_ones():
            few = self.check(web)
            self.assertEqual(few, max(len(places) for places in all_apart(web)), web)
            if web[0] < 6:
                ways = led_ways(reach_by_ways(web))
                self.assertEqual(few, min(len(runs) for runs, in covers(web[0], ways)), web)

    def test_known(self):
        self.assertEqual(self.check((0, ())), 0)
        self.assertEqual((some_runs((0, ())), most_apart((0, ()))), ((), ()))
        self.assertEqual(self.check((1, ())), 1)
        self.assertEqual(self.check((60, ())), 60)
        self.assertEqual(most_apart((60, ())), WHOLE)
        self.assertEqual(self.check(path(60)), 1)
        self.assertEqual(some_runs(path(60)), (WHOLE,))
        self.assertEqual(self.check(full(60)), 1)
        self.assertEqual(self.check(star(60)), 59)
        self.assertEqual(self.check(rows(20, 20, 20)), 3)
        # Runs leap over the place in which ways must meet: so they are fewer than ways.
        self.assertEqual((self.check(WEB), led_fewest(WEB)), (3, 4))

    def test_sixty_places_in_reasonable_time(self):
        begun = time.monotonic()
        for arrows in (10, 30, 60, 100, 200, 600, 1700):
            for web in some_ordered(60, arrows, 3, arrows):
                self.assertLessEqual(self.check(web), led_fewest(web))
        self.assertLess(time.monotonic() - begun, 30)


class RunPapers(unittest.TestCase):
    def test_all_of_small_webs(self):
        for web in itertools.chain(every_one_way(2), some_ordered(3, 2, 5, 5), [full(3), (3, ()), path(4), (4, ((0, 1), (2, 1)))]):
            if led_rings(web):
                continue
            apart = all_apart(web)
            for runs, in covers(web[0], led_ways(reach_by_ways(web))):
                for places in every_places(web[0]):
                    right = len(runs) == len(places) and places in apart
                    self.assertIs(is_run_paper(web, (runs, places)), right, (web, runs, places))

    def test_nearly(self):
        runs, apart = ((0, 3), (1, 2, 4), (5,)), (3, 4, 5)
        self.assertIs(is_run_paper(WEB, (runs, apart)), True)
        for thing in [(apart, runs), (runs,), (runs, apart, ()), [runs, apart], (list(runs), apart), (runs, list(apart)),
                      (runs[::-1], apart), (runs[1:], apart), (runs, (3, 4)), (runs, (4, 3, 5)), (runs, (3, 4, 4)), (runs, (0, 1, 3)),
                      (((0, 3), (1, 2), (4,), (5,)), apart), (runs, (3, 4, 6)), (runs, ("3", 4, 5)), (runs, ()), ((), apart),
                      (((0, 3), (2, 1, 4), (5,)), apart), (([0, 3], (1, 2, 4), (5,)), apart), (runs, None), (None, apart),
                      (((False, 3), (1, 2, 4), (5,)), apart), {runs: apart}, (((0, 3), (1, 2, 4), (5,), ()), apart)]:
            self.assertIs(is_run_paper(WEB, thing), False, thing)
        self.assertIs(is_run_paper((2, ()), (((0,), (1,)), (0, True))), False)
        self.assertIs(is_run_paper((0, ()), ((), ())), True)

    def test_anything(self):
        for thing in anything():
            self.assertIs(is_run_paper(WEB, thing), False)
            self.assertIs(is_run_paper((0, ()), thing), False)
            self.assertIs(is_run_paper(WEB, (thing, (3, 4, 5))), False)
            self.assertIs(is_run_paper(WEB, (((0, 3), (1, 2, 4), (5,)), thing)), False)
            self.assertIs(is_run_paper((0, ()), (thing, ())), same(thing, ()))


class Shelves(unittest.TestCase):
    def check(self, web):
        told = shelves(web)
        self.assertIs(type(told), list)
        self.assertTrue(all(type(shelf) is tuple and shelf for shelf in told))
        self.assertEqual(sorted(place for shelf in told for place in shelf), list(range(web[0])))
        for shelf in told:
            self.assertIs(is_apart(web, shelf), True, (web, shelf))
        self.assertEqual(len(told), len(longest(web)), web)
        return told

    def test_small_ones_against_all_ways(self):
        for web in small_ones():
            high = {place: max(len(way) for way in led_ways(web) if way[-1] == place) for place in range(web[0])}
            right = [tuple(place for place in range(web[0]) if high[place] == at) for at in sorted(set(high.values()))]
            self.assertEqual(self.check(web), right, web)

    def test_known(self):
        self.assertEqual(self.check((0, ())), [])
        self.assertEqual(self.check((1, ())), [(0,)])
        self.assertEqual(self.check((60, ())), [WHOLE])
        self.assertEqual(self.check(path(60)), [(place,) for place in WHOLE])
        self.assertEqual(self.check(full(60)), [(place,) for place in WHOLE])
        self.assertEqual(self.check((60, tuple((at + 1, at) for at in range(59)))), [(place,) for place in WHOLE[::-1]])
        self.assertEqual(self.check(star(60)), [(0,), WHOLE[1:]])
        self.assertEqual(self.check(WEB), [(0, 1, 5), (2,), (3, 4)])
        # A place stands as high as the longest way to it goes, not the shortest.
        self.assertEqual(self.check((4, ((0, 1), (0, 3), (1, 2), (2, 3)))), [(0,), (1,), (2,), (3,)])


class Longest(unittest.TestCase):
    def test_small_ones_against_all_ways(self):
        for web in small_ones():
            ways = led_ways(web)
            most = max((len(way) for way in ways), default=0)
            self.assertEqual(longest(web), min((way for way in ways if len(way) == most), default=()), web)

    def test_known(self):
        self.assertEqual(longest((0, ())), ())
        self.assertEqual(longest((1, ())), (0,))
        self.assertEqual(longest((60, ())), (0,))
        self.assertEqual(longest(path(60)), WHOLE)
        self.assertEqual(longest(full(60)), WHOLE)
        self.assertEqual(longest((60, tuple((at + 1, at) for at in range(59)))), WHOLE[::-1])
        self.assertEqual(longest(WEB), (0, 2, 3))
        self.assertEqual(longest((6, ((0, 5), (1, 4), (2, 3), (3, 5), (4, 5)))), (1, 4, 5))
        self.assertEqual(longest((6, ((0, 1), (2, 4), (3, 4), (5, 2), (5, 3)))), (5, 2, 4))

    def test_far_too_many_longest_ways_to_go_through(self):
        begun = time.monotonic()
        # Twenty shelves of three places each, all arrows from each shelf to the next one.
        arrows = tuple((low, high) for low in range(57) for high in range((low // 3 + 1) * 3, (low // 3 + 2) * 3))
        self.assertEqual(longest((60, arrows)), tuple(range(0, 60, 3)))
        self.assertEqual(shelves((60, arrows)), [(at, at + 1, at + 2) for at in range(0, 60, 3)])
        for many in (200, 800, 1700):
            for web in some_ordered(60, many, 3, many):
                self.assertIs(is_led_parting(web, (longest(web),)), len(longest(web)) == 60)
                self.assertEqual(len(shelves(web)), len(longest(web)))
        self.assertLess(time.monotonic() - begun, 20)


class Refusals(unittest.TestCase):
    ALONE = (reach, fewest_runs, some_runs, most_apart, shelves, longest)

    def test_no_one_way(self):
        for web in bad_one_ways():
            for call in self.ALONE:
                refused(self, NoOneWay, call, web)
            for thing in ((), None):
                refused(self, NoOneWay, is_apart, web, thing)
                refused(self, NoOneWay, is_run_paper, web, thing)

    def test_no_order(self):
        for web in NO_ORDERS:
            for call in self.ALONE:
                refused(self, NoOrder, call, web)
            for thing in ((), None, (0,), ((), ())):
                refused(self, NoOrder, is_apart, web, thing)
                refused(self, NoOrder, is_run_paper, web, thing)


if __name__ == "__main__":
    unittest.main()
