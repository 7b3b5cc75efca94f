"""[51]: four places that bar a plan, and plans of webs."""

import itertools
import random
import time
import unittest

from fewways.errors import NoWeb, TooMany
from fewways.fours import four_of, is_four, plan_of
from fewways.plans import is_plan, plan_web
from fewways.webs import web_of
from things import (ONE, PETERSEN, anything, bad_webs, deep_plan, drawn_plans, every_web, full, path, refused, ring, same,
                    some_plans, some_webs, star, wide_plan)


def fours_by_looking(web):
    """All fours of a web, by the ties among each four places."""
    for four in itertools.permutations(range(web[0]), 4):
        among = {tuple(sorted(pair)) for pair in itertools.combinations(four, 2)} & set(web[1])
        if among == {tuple(sorted(pair)) for pair in zip(four, four[1:])}:
            yield four


def numbered_anew(web, chance):
    names = chance.sample(range(web[0]), web[0])
    return web_of(web[0], [(names[low], names[high]) for low, high in web[1]])


class IsFour(unittest.TestCase):
    def test_against_all_fours(self):
        for web in itertools.chain(every_web(4), some_webs(6, 7, 10, 1), some_webs(7, 10, 10, 2)):
            wanted = set(fours_by_looking(web))
            for four in itertools.product(range(-1, web[0] + 1), repeat=4):
                self.assertIs(is_four(web, four), four in wanted, (web, four))

    def test_large_webs(self):
        self.assertIs(is_four(path(60), (56, 57, 58, 59)), True)
        self.assertIs(is_four(path(60), (59, 58, 57, 56)), True)
        self.assertIs(is_four(path(60), (56, 57, 58, 60)), False)
        self.assertIs(is_four(ring(60), (58, 59, 0, 1)), True)
        self.assertIs(is_four(full(60), (0, 1, 2, 3)), False)
        self.assertIs(is_four(ring(4), (0, 1, 2, 3)), False)
        self.assertIs(is_four(ring(5), (0, 1, 2, 3)), True)

    def test_nearly(self):
        for thing in [(0, 1, 2), (0, 1, 2, 3, 4), [0, 1, 2, 3], (0, True, 2, 3), (False, 1, 2, 3), (0, 1, 2, "3"),
                      (0, 1, 2, None), (0, 1, 2, [3]), ((0, 1, 2, 3),), ((0, 1), (2, 3)), (0, 1, 0, 1), (0, 1, 2, 1),
                      (0, 1, 1, 2), (1, 0, 1, 2), "0123", {0: 1, 2: 3}, {0: 0, 1: 1, 2: 2, 3: 3}, (1, 2, 3, 0), (),
                      (-1, 0, 1, 2), (0, 1, 2, -57), (57, 58, 59, 60), tuple(range(60))]:
            self.assertIs(is_four(path(60), thing), False, thing)
        self.assertIs(is_four(path(60), (0, 1, 2, 3)), True)

    def test_anything(self):
        for thing in anything():
            self.assertIs(is_four(path(5), thing), False)
            self.assertIs(is_four((0, ()), thing), False)
            self.assertIs(is_four(path(5), (0, 1, 2, thing)), same(thing, 3))

    def test_no_web(self):
        for web in bad_webs():
            refused(self, NoWeb, is_four, web, (0, 1, 2, 3))
            refused(self, NoWeb, is_four, web, None)


class FourOf(unittest.TestCase):
    def check(self, web):
        self.assertEqual(four_of(web), min(fours_by_looking(web), default=None), web)

    def test_against_all_fours(self):
        for many in range(6):
            for web in every_web(many):
                self.check(web)
        for many, ties in ((6, 5), (6, 8), (6, 11), (7, 8), (7, 14), (7, 18), (8, 9), (8, 20), (8, 25)):
            for web in some_webs(many, ties, 6, many * ties):
                self.check(web)

    def test_known(self):
        self.assertEqual(four_of(path(4)), (0, 1, 2, 3))
        self.assertEqual(four_of(path(20)), (0, 1, 2, 3))
        self.assertEqual(four_of(ring(20)), (0, 1, 2, 3))
        self.assertEqual(four_of(ring(5)), (0, 1, 2, 3))
        self.assertEqual(four_of(web_of(4, [(1, 3), (3, 0), (0, 2)])), (1, 3, 0, 2))
        self.assertEqual(four_of(web_of(20, [(19, 18), (18, 16), (16, 17)])), (17, 16, 18, 19))
        for web in [(0, ()), (1, ()), (20, ()), full(20), star(20), ring(4), path(3)]:
            self.assertIsNone(four_of(web))


class PlanOf(unittest.TestCase):
    def check(self, web):
        """What is told is a plan of the web, or there is none."""
        told = plan_of(web)
        if web[0] == 0 or four_of(web) is not None:
            self.assertIsNone(told, web)
            return
        self.assertIs(type(told), tuple)
        plan, order = told
        self.assertIs(is_plan(plan), True, plan)
        self.assertIs(type(order), tuple)
        self.assertEqual(sorted(order), list(range(web[0])))
        many, ties = plan_web(plan)
        self.assertEqual(many, web[0])
        self.assertEqual(web_of(many, [(order[low], order[high]) for low, high in ties]), web)

    def test_all_small_webs(self):
        for many in range(6):
            for web in every_web(many):
                self.check(web)
        for ties in range(16):
            for web in some_webs(6, ties, 10, ties):
                self.check(web)

    def test_known(self):
        self.assertIsNone(plan_of((0, ())))
        self.assertEqual(plan_of((1, ())), (ONE, (0,)))
        self.assertIsNone(plan_of(path(4)))
        self.assertIsNone(plan_of(ring(20)))
        self.assertIsNone(plan_of(PETERSEN))
        for web in [(2, ()), (2, ((0, 1),)), (20, ()), full(20), star(20), ring(4), path(3)]:
            self.assertIsNotNone(plan_of(web))
            self.check(web)

    def test_webs_of_plans_numbered_anew(self):
        chance = random.Random(4)
        plans = list(some_plans(4)) + list(drawn_plans(120, 20, 3))
        plans += [deep_plan(20), ("across", (deep_plan(19), ONE)), wide_plan("across", 20)]
        for plan in plans:
            web = numbered_anew(plan_web(plan), chance)
            self.assertIsNone(four_of(web))
            self.check(web)

    def test_a_tie_more_or_less(self):
        chance = random.Random(5)
        barred = 0
        for plan in drawn_plans(120, 20, 6):
            web = numbered_anew(plan_web(plan), chance)
            if web[0] > 1:
                tie = tuple(sorted(chance.sample(range(web[0]), 2)))
                other = web_of(web[0], sorted(set(web[1]) ^ {tie}))
                barred += four_of(other) is not None
                self.check(other)
        self.assertGreater(barred, 20)

    def test_twenty_places_in_reasonable_time(self):
        begun = time.monotonic()
        halves = web_of(20, [(low, high) for low in range(10) for high in range(10, 20)])
        # As many places tied in a row by ties that are there, and by such that are not, as can be.
        steps = web_of(20, [(low, high) for low in range(20) for high in range(20) if low < high and high % 2])
        for web in [full(20), (20, ()), star(20), halves, steps, plan_web(deep_plan(20)), path(20), ring(20)]:
            four_of(web)
            self.check(web)
        for ties in (30, 60, 95, 130, 160):
            for web in some_webs(20, ties, 3, ties):
                self.check(web)
        self.assertLess(time.monotonic() - begun, 20)


class Refusals(unittest.TestCase):
    def test_too_many(self):
        for web in [(21, ()), path(21), full(21), (60, ()), full(60), ring(60)]:
            refused(self, TooMany, four_of, web)
            refused(self, TooMany, plan_of, web)

    def test_no_web_ahead(self):
        for web in bad_webs() + [(21, ((1, 0),)), (21, [(0, 1)]), (61, ())]:
            refused(self, NoWeb, four_of, web)
            refused(self, NoWeb, plan_of, web)


if __name__ == "__main__":
    unittest.main()
