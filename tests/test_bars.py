"""[30], [31], [32], [33]: what bars show, told ends, the best bar, bar papers."""

import itertools
import time
import unittest

from fewways.bars import best_bar, is_bar_paper, keeps, shows, shows_with
from fewways.errors import NoParting, NoPlace, NoWeb, TooMany
from fewways.webs import web_of
from things import (PETERSEN, anything, bad_places, bad_webs, every_places, every_web, full, parts_beside, path,
                    plain_partings, refused, ring, same, some_webs, star)

WEB = (5, ((0, 1), (0, 2), (1, 2), (2, 3)))
NO_PARTINGS = [((0, 1), (2, 3)), ((0, 1, 2, 3),), ((0, 1), (1, 2), (3,), (4,)), ((0, 3), (1, 2), (4,)),
               ((), (0, 1), (2, 3), (4,)), [(0, 1), (2, 3), (4,)], ((0, 1), [2, 3], (4,)), ((0, 1), (2, 3), 4),
               ((0, True), (2, 3), (4,)), ((False, 1), (2, 3), (4,)), ((0, 1), (2, 3), (4,), None), ((0, 1), (2, 3), (4,), (5,)), (0, 1, 2, 3, 4),
               {(0, 1): (2, 3)}, "0-1 2-3 4", (((0, 1), (2, 3), (4,)),), tuple([(0, 1)] * 3000)]


class Shows(unittest.TestCase):
    def test_star(self):
        self.assertEqual(shows(star(10), ()), 1)
        self.assertEqual(shows(star(10), (0,)), 8)
        self.assertEqual(shows(star(10), (3,)), 0)
        self.assertEqual(shows(star(60), (0,)), 58)

    def test_below_nought(self):
        self.assertEqual(shows(full(5), (0, 1)), -1)
        self.assertEqual(shows(full(60), tuple(range(59))), -58)

    def test_no_places_and_all(self):
        self.assertEqual(shows((0, ()), ()), 0)
        for many in (1, 2, 7, 60):
            for web in ((many, ()), full(many), path(many)):
                self.assertEqual(shows(web, tuple(range(many))), -many)
        self.assertEqual(shows((60, ()), ()), 60)

    def test_against_joining(self):
        for web in itertools.chain(every_web(4), some_webs(7, 8, 6, 1)):
            for bar in every_places(web[0]):
                self.assertEqual(shows(web, bar), parts_beside(web, bar) - len(bar))

    def test_no_parting_goes_below(self):
        for web in itertools.chain(every_web(4), some_webs(6, 7, 8, 5)):
            fewest = min(len(parting) for parting in plain_partings(web))
            for bar in every_places(web[0]):
                self.assertLessEqual(shows(web, bar), fewest)

    def test_refusals(self):
        for web in bad_webs():
            refused(self, NoWeb, shows, web, ())
            refused(self, NoWeb, shows, web, (9, 9))
        for bar in bad_places(5):
            refused(self, NoPlace, shows, WEB, bar)
        refused(self, NoPlace, shows, (0, ()), (0,))
        refused(self, NoPlace, shows, full(60), (60,))


class ShowsWith(unittest.TestCase):
    def test_told_places_are_not_taken_off(self):
        self.assertEqual(shows_with(star(10), (0,), (0,)), 9)
        self.assertEqual(shows_with(star(10), (1,), (0,)), 8)
        self.assertEqual(shows_with(star(10), (), (0,)), 8)
        self.assertEqual(shows_with(path(5), (1, 3), (1, 3)), 3)
        self.assertEqual(shows_with(path(5), (3,), (1, 3)), 2)

    def test_no_places_and_all(self):
        self.assertEqual(shows_with((0, ()), (), ()), 0)
        whole = tuple(range(60))
        self.assertEqual(shows_with(full(60), whole, whole), 0)
        self.assertEqual(shows_with(full(60), (), whole), -60)
        self.assertEqual(shows_with(full(60), (0, 59), whole), -58)
        self.assertEqual(shows_with(full(60), whole, ()), 1)

    def test_against_joining_and_all_partings(self):
        for web in some_webs(5, 6, 6, 2):
            partings = plain_partings(web)
            for ends in every_places(5):
                fewest = min(len(parting) for parting in partings if keeps(web, ends, parting))
                for bar in every_places(5):
                    shown = shows_with(web, ends, bar)
                    self.assertEqual(shown, parts_beside(web, bar) - len(set(bar) - set(ends)))
                    self.assertLessEqual(shown, fewest)

    def test_refusals_in_order(self):
        for web in bad_webs():
            refused(self, NoWeb, shows_with, web, (), ())
            refused(self, NoWeb, shows_with, web, None, None)
        for places in bad_places(5):
            refused(self, NoPlace, shows_with, WEB, places, ())
            refused(self, NoPlace, shows_with, WEB, (), places)
            refused(self, NoPlace, shows_with, WEB, places, places)


class Keeps(unittest.TestCase):
    def test_first_last_and_between(self):
        parting = ((0, 1, 2, 3), (4,))
        self.assertIs(keeps(WEB, (), parting), True)
        self.assertIs(keeps(WEB, (0,), parting), True)
        self.assertIs(keeps(WEB, (3,), parting), True)
        self.assertIs(keeps(WEB, (4,), parting), True)
        self.assertIs(keeps(WEB, (0, 3, 4), parting), True)
        self.assertIs(keeps(WEB, (1,), parting), False)
        self.assertIs(keeps(WEB, (2,), parting), False)
        self.assertIs(keeps(WEB, (0, 1, 3, 4), parting), False)

    def test_any_form_of_a_parting(self):
        self.assertIs(keeps(WEB, (1, 2, 3), ((4,), (3, 2), (1, 0))), True)
        self.assertIs(keeps(WEB, (0, 1, 2, 3, 4), ((4,), (3, 2), (1, 0))), True)
        self.assertIs(keeps(WEB, (2,), ((3, 2, 1, 0), (4,))), False)

    def test_large_and_empty(self):
        self.assertIs(keeps((0, ()), (), ()), True)
        self.assertIs(keeps(path(60), (0, 59), (tuple(range(60)),)), True)
        self.assertIs(keeps(path(60), (0, 58), (tuple(range(60)),)), False)
        self.assertIs(keeps((60, ()), tuple(range(60)), tuple((place,) for place in range(60))), True)

    def test_refusals_in_order(self):
        for web in bad_webs():
            refused(self, NoWeb, keeps, web, (), ())
            refused(self, NoWeb, keeps, web, (9, 9), None)
        for ends in bad_places(5):
            refused(self, NoPlace, keeps, WEB, ends, ((0, 1), (2, 3), (4,)))
            refused(self, NoPlace, keeps, WEB, ends, ((0, 1),))
            refused(self, NoPlace, keeps, WEB, ends, ends)
        for parting in NO_PARTINGS + anything():
            refused(self, NoParting, keeps, WEB, (), parting)
            refused(self, NoParting, keeps, WEB, (0, 4), parting)
        for parting in anything():
            if not same(parting, ()):
                refused(self, NoParting, keeps, (0, ()), (), parting)


class BestBar(unittest.TestCase):
    def check(self, web):
        shown = [(parts_beside(web, bar) - len(bar), bar) for bar in every_places(web[0])]
        most = max(shown)[0]
        self.assertEqual(best_bar(web), (most, min(bar for many, bar in shown if many == most)), web)

    def test_against_all_bars(self):
        for many in range(5):
            for web in every_web(many):
                self.check(web)
        for many, ties in ((5, 5), (6, 6), (7, 7), (7, 10), (8, 9), (9, 8)):
            for web in some_webs(many, ties, 5, many * ties):
                self.check(web)

    def test_no_places(self):
        self.assertEqual(best_bar((0, ())), (0, ()))

    def test_the_least_of_several(self):
        self.assertEqual(best_bar((1, ())), (1, ()))
        self.assertEqual(best_bar(path(3)), (1, ()))
        self.assertEqual(best_bar(path(12)), (1, ()))
        double = web_of(8, [(3, 0), (3, 1), (3, 2), (3, 7), (7, 4), (7, 5), (7, 6)])
        self.assertEqual(best_bar(double), (4, (3, 7)))
        chain = web_of(7, [(0, 1), (0, 2), (0, 3), (3, 4), (4, 5), (4, 6)])
        self.assertEqual(best_bar(chain), (3, (0, 4)))
        three = web_of(4, [(0, 3), (1, 3), (2, 3)])
        self.assertEqual(best_bar(three), (2, (3,)))
        # (0,) and (0, 1) show as much as one another: the shorter one stands ahead.
        self.assertEqual(best_bar(web_of(6, [(0, 2), (0, 3), (0, 1), (1, 4), (1, 5)])), (2, (0,)))

    def test_twelve_places_in_reasonable_time(self):
        begun = time.monotonic()
        self.assertEqual(best_bar(full(12)), (1, ()))
        self.assertEqual(best_bar(ring(12)), (1, ()))
        self.assertEqual(best_bar(star(12)), (10, (0,)))
        self.assertEqual(best_bar((12, ())), (12, ()))
        self.assertEqual(best_bar(web_of(12, [(low, high) for low in range(4) for high in range(4, 12)])),
                         (4, (0, 1, 2, 3)))
        self.assertEqual(best_bar(PETERSEN), (1, ()))
        self.assertLess(time.monotonic() - begun, 10)

    def test_refusals(self):
        for web in [(13, ()), path(13), ring(13), star(13), full(13), (60, ()), full(60)]:
            refused(self, TooMany, best_bar, web)
        for web in bad_webs() + [(13, ((1, 0),)), (13, [(0, 1)]), (61, ())]:
            refused(self, NoWeb, best_bar, web)


class BarPaper(unittest.TestCase):
    def test_right_ones(self):
        self.assertIs(is_bar_paper((0, ()), ((), (), ())), True)
        self.assertIs(is_bar_paper((1, ()), ((0,), ((0,),), ())), True)
        self.assertIs(is_bar_paper((1, ()), ((0,), ((0,),), (0,))), False)
        self.assertIs(is_bar_paper(star(4), ((), ((1, 0, 2), (3,)), (0,))), True)
        self.assertIs(is_bar_paper(star(4), ((), ((3,), (2, 0, 1)), (0,))), True)
        self.assertIs(is_bar_paper(star(4), ((0,), ((2,), (1, 0), (3,)), (0,))), True)
        self.assertIs(is_bar_paper(path(60), ((0, 59), (tuple(range(60)),), ())), True)
        self.assertIs(is_bar_paper(full(60), ((), (tuple(range(60)),), ())), True)
        singles = tuple((place,) for place in range(1, 60))
        self.assertIs(is_bar_paper(star(60), ((), ((1, 0, 2),) + singles[2:], (0,))), True)

    def test_nearly_right_ones(self):
        ways = ((1, 0, 2), (3,))
        for thing in [((0,), ways, (0,)), ((4,), ways, (0,)), ((1, 0), ways, (0,)), ((1, 1), ways, (0,)),
                      ((), ways, ()), ((), ways, (1,)), ((), ways, (0, 1)), ((), ways, (4,)), ((), ways, (0, 0)),
                      ((), ((1, 0), (2,), (3,)), (0,)), ((), ((1, 0, 2),), (0,)), ((), ((1, 0, 2), (3,), (3,)), (0,)),
                      ((), ((1, 2), (0, 3)), (0,)), ((), ((1, 0, 2), (3,), ()), (0,)), ((), (), (0,)),
                      ([], ways, (0,)), ((), list(ways), (0,)), ((), ways, [0]), [(), ways, (0,)],
                      ((), ([1, 0, 2], (3,)), (0,)), ((), ((True, 0, 2), (3,)), (0,)), ((), ((1, False, 2), (3,)), (0,)),
                      ((False,), ((1, 0), (2,), (3,)), (0,)), ((True,), ways, (0,)), ((), ways, (False,)),
                      ((), ways), (ways, (0,)), ((), ways, (0,), ()), (((), ways, (0,)),), (ways, (), (0,)),
                      ((), (0,), ways), (None, ways, (0,)), ((), None, (0,)), ((), ways, None), (0, ways, (0,)),
                      ((), ways, 0), ("", ways, (0,)), ((), ways, "0"), ((), {}, (0,)), ({}, ways, (0,)),
                      {(): ways, 1: (0,), 2: 0}, {0: (), 1: ways, 2: (0,)}]:
            self.assertIs(is_bar_paper(star(4), thing), False, thing)
        self.assertIs(is_bar_paper(star(4), ((), ways, (0,))), True)
        self.assertIs(is_bar_paper(star(4), ((1,), ways, (0,))), True)

    def test_told_ends_count_at_the_bar(self):
        ways = ((0, 1), (2, 3), (4,))
        self.assertIs(is_bar_paper(path(5), ((1, 3), ways, (1, 3))), True)
        self.assertIs(is_bar_paper(path(5), ((1,), ways, (1, 3))), False)
        self.assertIs(is_bar_paper(path(5), ((), ways, (1, 3))), False)

    def test_against_all_of_small_webs(self):
        for web in some_webs(4, 3, 6, 3):
            for parting in plain_partings(web):
                outer = {place for way in parting for place in (way[0], way[-1])}
                for ends in every_places(4):
                    for bar in every_places(4):
                        right = set(ends) <= outer and len(parting) == (
                            parts_beside(web, bar) - len(set(bar) - set(ends)))
                        self.assertIs(is_bar_paper(web, (ends, parting, bar)), right)

    def test_anything(self):
        for thing in anything():
            self.assertIs(is_bar_paper(WEB, thing), False)
            for web in (WEB, (0, ())):
                for handed in [(thing, (), ()), ((), thing, ()), ((), (), thing), (thing, thing, thing)]:
                    right = web[0] == 0 and same(thing, ())
                    self.assertIs(is_bar_paper(web, handed), right)

    def test_no_web(self):
        for web in bad_webs():
            refused(self, NoWeb, is_bar_paper, web, ((), (), ()))
            refused(self, NoWeb, is_bar_paper, web, None)


if __name__ == "__main__":
    unittest.main()
