"""[52]: webs of plans, parted to fewest ways."""

import random
import time
import unittest

from fewways.acrosses import plan_bar, plan_fewest, plan_parting
from fewways.bars import is_bar_paper, shows
from fewways.errors import NoPlan
from fewways.plans import plan_web
from fewways.trial import fewest
from fewways.ways import is_parting
from fewways.webs import are_places
from things import ONE, bad_plans, deep_plan, drawn_plans, ones_of, plain_partings, refused, some_plans, wide_plan

CALLS = (plan_fewest, plan_parting, plan_bar)


class Acrosses(unittest.TestCase):
    def check(self, plan):
        web = plan_web(plan)
        told = plan_fewest(plan)
        parting = plan_parting(plan)
        bar = plan_bar(plan)
        self.assertIs(is_parting(web, parting), True, plan)
        self.assertEqual(len(parting), told, plan)
        self.assertIs(are_places(web[0], bar), True, plan)
        self.assertEqual(shows(web, bar), told, plan)
        self.assertIs(is_bar_paper(web, ((), parting, bar)), True, plan)
        return told

    def test_small_ones_against_all_sets_of_ties(self):
        for plan in some_plans(4):
            self.assertEqual(self.check(plan), min(len(each) for each in plain_partings(plan_web(plan))), plan)

    def test_ones_of_up_to_ten_places_against_trial(self):
        for plan in list(some_plans(5)) + list(drawn_plans(40, 9, 1)):
            self.assertEqual(self.check(plan), fewest(plan_web(plan)), plan)

    def test_one(self):
        self.assertEqual(plan_fewest(ONE), 1)
        self.assertEqual(plan_parting(ONE), ((0,),))
        self.assertEqual(self.check(ONE), 1)

    def test_beside_all_together(self):
        for many in range(2, 41):
            self.assertEqual(self.check(wide_plan("beside", many)), many)
        full_ones = ("beside", (wide_plan("across", 10), wide_plan("across", 20), ONE, wide_plan("across", 9)))
        self.assertEqual(self.check(full_ones), 4)

    def test_across_of_single_places(self):
        for many in range(2, 41):
            self.assertEqual(self.check(wide_plan("across", many)), 1)

    def test_across_of_two_kinds(self):
        for low in range(2, 21):
            for high in range(2, 21):
                plan = ("across", (wide_plan("beside", low), wide_plan("beside", high)))
                self.assertEqual(self.check(plan), max(1, low - high, high - low))

    def test_stars(self):
        for many in range(2, 40):
            self.assertEqual(self.check(("across", (ONE, wide_plan("beside", many)))), max(1, many - 1))
            self.assertEqual(self.check(("across", (wide_plan("beside", many), ONE))), max(1, many - 1))

    def test_three_and_more_across(self):
        for sizes in [(2, 3, 9), (9, 2, 3), (3, 9, 2), (2, 2, 2), (5, 5, 20), (20, 5, 5), (2, 2, 2, 2, 14), (13, 13, 14)]:
            plan = ("across", tuple(wide_plan("beside", size) for size in sizes))
            self.assertEqual(self.check(plan), max(1, 2 * max(sizes) - sum(sizes)), sizes)

    def test_ways_of_several_places_are_joined(self):
        twos = ("beside", tuple([wide_plan("across", 2)] * 10))
        self.assertEqual(self.check(("across", (twos, ONE))), 9)
        self.assertEqual(self.check(("across", (wide_plan("beside", 4), twos))), 6)
        self.assertEqual(self.check(("across", (twos, wide_plan("beside", 20)))), 1)
        self.assertEqual(self.check(("across", (wide_plan("across", 3), wide_plan("beside", 3)))), 1)

    def test_deep_ones(self):
        for deep in range(1, 25):
            self.check(deep_plan(deep))
        plan = wide_plan("beside", 3)
        for at in range(22):
            plan = (("across", "beside")[at % 2], (ONE, plan))
        self.check(plan)

    def test_drawn_ones(self):
        begun = time.monotonic()
        for plan in drawn_plans(400, 40, 8):
            self.check(plan)
        chance = random.Random(9)
        for _ in range(200):
            inner = [ONE]
            while sum(ones_of(plan) for plan in inner) < 40:
                inner.append(wide_plan("beside", chance.randint(2, 6)) if chance.random() < 0.3 else ONE)
                if chance.random() < 0.5 and len(inner) > 2:
                    inner = inner[:-2] + [(chance.choice(("beside", "across")), tuple(inner[-2:]))]
            while sum(ones_of(plan) for plan in inner) > 40:
                inner.pop()
            self.check((chance.choice(("beside", "across")), tuple(inner)) if len(inner) > 1 else inner[0])
        self.assertLess(time.monotonic() - begun, 30)

    def test_no_plan(self):
        for thing in bad_plans():
            for call in CALLS:
                refused(self, NoPlan, call, thing)


if __name__ == "__main__":
    unittest.main()
