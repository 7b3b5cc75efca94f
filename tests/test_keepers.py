"""[80], [81]: told begins and told ends, and links."""

import itertools
import time
import unittest

from fewways.errors import NoOneWay, NoOrder, NoParting, NoPlace
from fewways.keepers import keeps_both, kept_fewest, link, link_marks, some_kept, thinned
from fewways.leads import is_led_parting, led_fewest
from fewways.oneways import both_ways, is_one_way
from fewways.pairs import is_marks
from things import (anything, bad_one_ways, bad_places, both_arrows, covers, every_one_way, every_places, full, led_rings,
                    led_ways, path, refused, same, some_ordered, star)

WEB = (6, ((0, 2), (1, 2), (2, 3), (2, 4), (3, 4)))
PARTING = ((0, 2, 3), (1,), (4,), (5,))
WHOLE = tuple(range(60))
NO_ORDERS = [(2, ((0, 1), (1, 0))), (3, ((0, 1), (1, 2), (2, 0))), both_ways(path(60)), (60, both_arrows(60))]
OF_THREE = (thinned, kept_fewest, some_kept, link, link_marks)


def led_partings(web):
    return [ways for ways, in covers(web[0], led_ways(web))]


def small_ones():
    """Small one-way webs that have an order."""
    for web in itertools.chain(*(every_one_way(many) for many in range(4)), some_ordered(4, 3, 8, 1), some_ordered(4, 5, 5, 2),
                               [full(4), (4, ()), path(4)], some_ordered(5, 6, 2, 3)):
        if not led_rings(web):
            yield web


def told_of(web):
    return itertools.product(every_places(web[0]), repeat=2)


def kept_by(parting, begins, ends):
    firsts = [way[0] for way in parting]
    lasts = [way[-1] for way in parting]
    return set(begins) <= set(firsts) and set(ends) <= set(lasts)


def links(parting, begins, ends):
    return sorted(way[0] for way in parting) == list(begins) and sorted(way[-1] for way in parting) == list(ends)


class Thinned(unittest.TestCase):
    def test_small_webs(self):
        for web in small_ones():
            for begins, ends in told_of(web):
                told = thinned(web, begins, ends)
                right = tuple(arrow for arrow in web[1] if not (arrow[1] in begins or arrow[0] in ends))
                self.assertEqual(told, (web[0], right))

    def test_its_partings_are_just_those_that_keep(self):
        for web in itertools.chain(some_ordered(4, 4, 6, 4), [full(4), WEB]):
            partings = led_partings(web)
            for begins, ends in itertools.islice(told_of(web), 0, None, 3):
                kept = [parting for parting in partings if kept_by(parting, begins, ends)]
                self.assertEqual(kept, [each for each in partings if is_led_parting(thinned(web, begins, ends), each)])

    def test_known(self):
        self.assertEqual(thinned(WEB, (), ()), WEB)
        self.assertEqual(thinned(WEB, (2,), ()), (6, ((2, 3), (2, 4), (3, 4))))
        self.assertEqual(thinned(WEB, (), (2,)), (6, ((0, 2), (1, 2), (3, 4))))
        self.assertEqual(thinned(WEB, (2,), (2,)), (6, ((3, 4),)))
        self.assertEqual(thinned(WEB, (0, 1, 5), (4, 5)), WEB)
        self.assertEqual(thinned(WEB, (4,), (3,)), (6, ((0, 2), (1, 2), (2, 3))))
        self.assertEqual(thinned((0, ()), (), ()), (0, ()))
        self.assertEqual(thinned(full(60), WHOLE, ()), (60, ()))
        self.assertEqual(thinned(full(60), (), WHOLE), (60, ()))
        self.assertIs(is_one_way(thinned(full(60), (30,), (20,))), True)


class KeepsBoth(unittest.TestCase):
    def test_all_of_small_webs(self):
        for web in itertools.chain(*(every_one_way(many) for many in range(3)), some_ordered(3, 2, 4, 5), [full(3), full(4), path(4)]):
            if led_rings(web):
                continue
            for parting in led_partings(web):
                for begins, ends in told_of(web):
                    self.assertIs(keeps_both(web, begins, ends, parting), kept_by(parting, begins, ends))

    def test_known(self):
        self.assertIs(keeps_both(WEB, (), (), PARTING), True)
        self.assertIs(keeps_both(WEB, (0, 1, 4, 5), (1, 3, 4, 5), PARTING), True)
        self.assertIs(keeps_both(WEB, (2,), (), PARTING), False)
        self.assertIs(keeps_both(WEB, (), (2,), PARTING), False)
        self.assertIs(keeps_both(WEB, (3,), (), PARTING), False)
        self.assertIs(keeps_both(WEB, (), (0,), PARTING), False)
        self.assertIs(keeps_both((0, ()), (), (), ()), True)
        self.assertIs(keeps_both(path(60), (0,), (59,), (WHOLE,)), True)
        self.assertIs(keeps_both(path(60), (59,), (0,), (WHOLE,)), False)

    def test_no_parting_behind_no_place(self):
        for thing in anything() + [PARTING[::-1], PARTING[1:], list(PARTING), ((0, 2, 3), (1,), (4,), (5,), (5,)),
                                   ((0, 2, 3), (True,), (4,), (5,)), ((2, 0), (1,), (3,), (4,), (5,)), ((0, 1), (1, 2))]:
            refused(self, NoParting, keeps_both, WEB, (), (), thing)
            refused(self, NoParting, keeps_both, WEB, (2,), (2,), thing)
            refused(self, NoPlace, keeps_both, WEB, None, (), thing)
            refused(self, NoPlace, keeps_both, WEB, (), (6,), thing)
            if not same(thing, ()):
                refused(self, NoParting, keeps_both, (0, ()), (), (), thing)

    def test_a_parting_of_the_web_that_is_none_of_the_thinned_one(self):
        self.assertIs(keeps_both(path(3), (1,), (), ((0, 1, 2),)), False)
        self.assertIs(keeps_both(path(3), (1,), (), ((0,), (1, 2))), True)


class Fewest(unittest.TestCase):
    def check(self, web, begins, ends):
        few = kept_fewest(web, begins, ends)
        parting = some_kept(web, begins, ends)
        self.assertIs(is_led_parting(web, parting), True, (web, begins, ends))
        self.assertIs(keeps_both(web, begins, ends, parting), True, (web, begins, ends))
        self.assertTrue(kept_by(parting, begins, ends))
        self.assertEqual(len(parting), few)
        return few

    def test_small_ones_against_all_partings(self):
        for web in small_ones():
            partings = led_partings(web)
            for begins, ends in told_of(web):
                right = min(len(parting) for parting in partings if kept_by(parting, begins, ends))
                self.assertEqual(self.check(web, begins, ends), right, (web, begins, ends))

    def test_known(self):
        self.assertEqual(self.check((0, ()), (), ()), 0)
        self.assertEqual(some_kept((0, ()), (), ()), ())
        self.assertEqual(self.check(WEB, (), ()), 3)
        self.assertEqual(self.check(WEB, (2,), ()), 4)
        self.assertEqual(self.check(WEB, (2,), (2,)), 5)
        self.assertEqual(self.check(path(60), (), ()), 1)
        self.assertEqual(self.check(path(60), (30,), ()), 2)
        self.assertEqual(self.check(path(60), (30,), (29,)), 2)
        self.assertEqual(self.check(path(60), (30,), (30,)), 3)
        self.assertEqual(self.check(path(60), WHOLE, WHOLE), 60)
        self.assertEqual(self.check(star(60), (), (0,)), 60)

    def test_none_told_is_as_without(self):
        for web in some_ordered(30, 60, 5, 6):
            self.assertEqual(self.check(web, (), ()), led_fewest(web))

    def test_sixty_places_in_reasonable_time(self):
        begun = time.monotonic()
        for arrows in (60, 150, 600, 1700):
            for web in some_ordered(60, arrows, 2, arrows):
                for begins, ends in [((), WHOLE[::3]), (WHOLE[::7], ()), (WHOLE[::5], WHOLE[2::5]), (WHOLE, WHOLE)]:
                    self.check(web, begins, ends)
        self.assertLess(time.monotonic() - begun, 30)


class Links(unittest.TestCase):
    def check(self, web, begins, ends):
        """Just one of both is None, and the other one is right."""
        found = link(web, begins, ends)
        marks = link_marks(web, begins, ends)
        self.assertEqual((found is None) + (marks is None), 1, (web, begins, ends))
        if found is None:
            self.assertIs(is_marks(thinned(web, begins, ends), marks), True, (web, begins, ends, marks))
            self.assertLess(len(marks[0]) + len(marks[1]), web[0] - len(begins), (web, begins, ends, marks))
        else:
            self.assertIs(is_led_parting(web, found), True, (web, begins, ends, found))
            self.assertTrue(links(found, begins, ends), (web, begins, ends, found))
        return found is not None

    def test_small_ones_against_all_partings(self):
        for web in small_ones():
            partings = led_partings(web)
            for begins, ends in told_of(web):
                if len(begins) == len(ends):
                    right = any(links(parting, begins, ends) for parting in partings)
                    self.assertIs(self.check(web, begins, ends), right, (web, begins, ends))

    def test_no_places(self):
        self.assertEqual(link((0, ()), (), ()), ())
        self.assertIsNone(link_marks((0, ()), (), ()))

    def test_none_told_of_some_places(self):
        for web in [(1, ()), path(3), full(60), (60, ())]:
            self.assertIs(self.check(web, (), ()), False)

    def test_known(self):
        self.assertEqual(link(path(60), (0,), (59,)), (WHOLE,))
        self.assertIsNone(link(path(60), (0,), (58,)))
        self.assertIsNone(link(path(60), (59,), (0,)))
        self.assertEqual(link(path(60), (0, 30), (29, 59)), (WHOLE[:30], WHOLE[30:]))
        self.assertIs(self.check(path(60), (0, 30), (30, 59)), False)
        self.assertEqual(link((60, ()), WHOLE, WHOLE), tuple((place,) for place in WHOLE))
        self.assertEqual(link(full(60), WHOLE, WHOLE), tuple((place,) for place in WHOLE))
        self.assertEqual(link(WEB, (0, 1, 5), (1, 4, 5)), ((0, 2, 3, 4), (1,), (5,)))
        self.assertIs(self.check(WEB, (0, 1, 5), (3, 4, 5)), False)
        self.assertIs(self.check(WEB, (0, 1), (1, 4)), False)

    def test_unlike_in_number(self):
        for call in (link, link_marks):
            for begins, ends in [((), (0,)), ((0,), ()), ((0, 1), (4,)), ((0,), (3, 4)), ((0, 1, 2, 3, 4, 5), (0, 1, 2, 3, 4))]:
                refused(self, NoPlace, call, WEB, begins, ends)
            refused(self, NoPlace, call, full(60), WHOLE, WHOLE[1:])
            refused(self, NoOrder, call, (2, ((0, 1), (1, 0))), (), (0,))

    def test_sixty_places_in_reasonable_time(self):
        begun = time.monotonic()
        linked = 0
        for arrows in (200, 600, 1500):
            for web in some_ordered(60, arrows, 2, arrows):
                for many in (5, 20, 50):
                    parting = some_kept(web, WHOLE[:many], ())
                    firsts = tuple(sorted(way[0] for way in parting))
                    lasts = tuple(sorted(way[-1] for way in parting))
                    linked += self.check(web, firsts, lasts)
                    self.check(web, WHOLE[:many], WHOLE[-many:])
        self.assertEqual(linked, 18)
        self.assertLess(time.monotonic() - begun, 30)


class Refusals(unittest.TestCase):
    def test_no_one_way_ahead_of_all(self):
        for web in bad_one_ways():
            for call in OF_THREE:
                refused(self, NoOneWay, call, web, (), ())
                refused(self, NoOneWay, call, web, None, "x")
            refused(self, NoOneWay, keeps_both, web, None, (), None)

    def test_no_order_ahead_of_no_place(self):
        for web in NO_ORDERS:
            for call in OF_THREE:
                refused(self, NoOrder, call, web, (), ())
                refused(self, NoOrder, call, web, None, (99,))
            refused(self, NoOrder, keeps_both, web, (), (), tuple((place,) for place in range(web[0])))
            refused(self, NoOrder, keeps_both, web, None, None, None)

    def test_no_place(self):
        for places in bad_places(6):
            for call in OF_THREE:
                refused(self, NoPlace, call, WEB, places, ())
                refused(self, NoPlace, call, WEB, (), places)
                refused(self, NoPlace, call, WEB, places, places)
            refused(self, NoPlace, keeps_both, WEB, places, (), PARTING)
            refused(self, NoPlace, keeps_both, WEB, (), places, PARTING)
        for places in bad_places(0):
            for call in OF_THREE:
                refused(self, NoPlace, call, (0, ()), places, ())
                refused(self, NoPlace, call, (0, ()), (), places)


if __name__ == "__main__":
    unittest.main()
