"""[2], [3]: nothing handed in is changed, told things are new, questions are answered alike."""

import copy
import unittest

from fewways.acrosses import plan_bar, plan_fewest, plan_parting
from fewways.bars import best_bar, is_bar_paper, keeps, shows, shows_with
from fewways.errors import FewError, NoForest, NoOneWay, NoOrder, NoParting, NoPlace, NoPlan, NoWeb, TooMany
from fewways.forests import forest_bar, forest_fewest, forest_parting, is_forest
from fewways.fours import four_of, is_four, plan_of
from fewways.leads import is_led_parting, is_way_paper, led_fewest, led_parting, pairs_along, some_led, way_paper
from fewways.oneways import (both_ways, comes_from, is_led, is_led_ring, is_one_way, leads_to, least_order, some_ring,
                             upward)
from fewways.opens import forest_count, open_places
from fewways.pairs import is_marks, is_pairs, most_pairs, some_marks, some_pairs
from fewways.plans import is_plan, plan_web
from fewways.ringeds import is_ringed, ringed_fewest, ringed_least
from fewways.rounds import (is_round, is_round_paper, lack, lacking, round_fewest, round_of, round_pairs, round_paper,
                            some_round)
from fewways.spreads import fewest_alone, hold_out, holding_out, is_spread, some_spread
from fewways.trial import counted, fewest, least_parting, through_ends
from fewways.ways import is_parting, is_way, parting_along, plain, ties_along, written
from fewways.webs import is_web, parts, tied, web_of, without
from things import anything, bad_webs, deep_plan, refused, ring

WEB = (5, ((0, 1), (0, 2), (1, 2), (2, 3)))
PARTING = ((4,), (3, 2), (1, 0))
FOREST = (6, ((0, 1), (0, 2), (0, 3), (3, 4)))
ONE_WAY = (5, ((0, 1), (1, 2), (2, 0), (2, 3), (3, 2)))
ORDERED = (5, ((0, 2), (1, 2), (2, 3), (2, 4)))
LED = ((0, 2, 3), (1,), (4,))
ROUND = (((4,),), ((0, 1), (2, 3)))
TWOFOLD = (5, ((0, 1), (1, 0), (1, 2), (2, 3), (3, 2)))
SPREAD = ((3, 4), (), ((0, 1, 2),))
PLAN = ("across", (("one",), ("beside", (("one",), ("one",), ("one",)))))
QUESTIONS = [
    (is_web, (WEB,)), (web_of, (5, [(2, 1), (0, 1), (1, 2)])), (tied, (WEB, 2)), (parts, (WEB,)),
    (without, (WEB, (1, 3))), (is_way, (WEB, (1, 0))), (written, (WEB, (1, 0))), (is_parting, (WEB, PARTING)),
    (plain, (WEB, PARTING)), (ties_along, (WEB, PARTING)), (parting_along, (WEB, ((0, 1), (2, 3)))),
    (fewest, (WEB,)), (least_parting, (WEB,)), (counted, (WEB,)), (through_ends, (WEB,)),
    (through_ends, ((3, ((0, 1), (1, 2))),)),
    (shows, (WEB, (2,))), (shows_with, (WEB, (1,), (1, 2))), (keeps, (WEB, (0, 1), PARTING)), (best_bar, (WEB,)),
    (is_bar_paper, (WEB, ((1, 2), PARTING, (1, 2)))), (is_forest, (WEB,)), (forest_fewest, (FOREST, (0, 3))),
    (forest_parting, (FOREST, (0, 3))), (forest_bar, (FOREST, (0, 3))), (forest_count, (FOREST,)),
    (open_places, (FOREST,)), (is_plan, (PLAN,)), (plan_web, (PLAN,)),
    (is_four, (WEB, (0, 1, 2, 3))), (four_of, (WEB,)), (four_of, ((4, ((0, 1), (1, 2), (2, 3))),)), (plan_of, (WEB,)),
    (plan_fewest, (PLAN,)), (plan_parting, (PLAN,)), (plan_bar, (PLAN,)), (is_one_way, (ONE_WAY,)),
    (leads_to, (ONE_WAY, 2)), (comes_from, (ONE_WAY, 2)), (both_ways, (WEB,)), (upward, (WEB,)),
    (is_led, (ONE_WAY, (0, 1, 2))), (is_led_ring, (ONE_WAY, (0, 1, 2))), (least_order, (ONE_WAY,)),
    (least_order, (WEB,)), (some_ring, (ONE_WAY,)), (is_pairs, (ONE_WAY, ((0, 1), (1, 2)))),
    (is_marks, (ONE_WAY, ((0, 2), (2,)))), (most_pairs, (ONE_WAY,)), (some_pairs, (ONE_WAY,)), (some_marks, (ONE_WAY,)),
    (is_led_parting, (ORDERED, LED)), (pairs_along, (ORDERED, LED)), (led_parting, (ORDERED, ((1, 2), (2, 4)))),
    (led_fewest, (ORDERED,)), (some_led, (ORDERED,)), (is_way_paper, (ORDERED, (LED, ((2,), (2,))))), (way_paper, (ORDERED,)),
    (is_round, (TWOFOLD, ROUND)), (round_pairs, (TWOFOLD, ROUND)), (round_of, (TWOFOLD, ((0, 1), (1, 0), (2, 3)))),
    (round_fewest, (TWOFOLD,)), (some_round, (TWOFOLD,)), (lack, (TWOFOLD, (1, 4))), (lacking, (TWOFOLD,)),
    (is_round_paper, (TWOFOLD, (ROUND, (4,)))), (round_paper, (TWOFOLD,)), (is_spread, (WEB, SPREAD)), (fewest_alone, (WEB,)),
    (some_spread, (WEB,)), (hold_out, (WEB, (3, 4))), (holding_out, (WEB,)), (is_ringed, (WEB, (((3,), (4,)), ((0, 1, 2),)))),
    (ringed_fewest, (WEB,)), (ringed_least, (WEB,)),
]
OF_ANYTHING = (is_web, is_plan, is_one_way)


def answer(call, handed):
    try:
        return call(*handed)
    except FewError as why:
        return type(why)


class Kept(unittest.TestCase):
    def test_answered_alike(self):
        told = [answer(call, handed) for call, handed in QUESTIONS]
        again = [answer(call, handed) for call, handed in reversed(QUESTIONS)]
        self.assertEqual(told, again[::-1])
        self.assertEqual([type(each) for each in told], [type(each) for each in again[::-1]])

    def test_nothing_handed_in_is_changed(self):
        for call, handed in QUESTIONS:
            before = copy.deepcopy(handed)
            answer(call, handed)
            self.assertEqual(handed, before, call)
            self.assertEqual(repr(handed), repr(before), call)

    def test_nothing_refused_is_changed(self):
        for thing in anything() + bad_webs():
            before = repr(thing)
            for call, handed in QUESTIONS:
                for at in range(len(handed)):
                    answer(call, handed[:at] + (thing,) + handed[at + 1:])
            self.assertEqual(repr(thing), before)

    def test_told_lists_and_dicts_are_the_askers_own(self):
        for call, handed in QUESTIONS:
            told = call(*handed)
            kept = copy.deepcopy(told)
            if isinstance(told, list):
                self.assertIsNot(call(*handed), told)
                told.append("more")
                told[0] = "other"
            if isinstance(told, dict):
                self.assertIsNot(call(*handed), told)
                told.clear()
            self.assertEqual(call(*handed), kept, call)

    def test_what_becomes_of_what_was_handed_in_changes_nothing(self):
        pairs = [(2, 1), (0, 1)]
        web = web_of(3, pairs)
        pairs.append((0, 2))
        pairs[0] = (0, 2)
        self.assertEqual(web, (3, ((0, 1), (1, 2))))
        self.assertEqual(web_of(3, pairs), (3, ((0, 1), (0, 2))))

    def test_what_was_told_may_be_handed_in_again(self):
        web = without(web_of(7, [(6, 0), (2, 1), (3, 6)]), (1, 4))
        self.assertEqual(web, (5, ((0, 4), (2, 4))))
        self.assertEqual(parting_along(web, ties_along(web, least_parting(web))), least_parting(web))

    def test_what_was_told_of_forests_and_plans_may_be_handed_in_again(self):
        web = plan_web(PLAN)
        ends = open_places(web)
        self.assertIs(is_bar_paper(web, (ends, forest_parting(web, ends), forest_bar(web, ends))), True)
        self.assertEqual(shows(web, best_bar(web)[1]), best_bar(web)[0])
        self.assertIs(is_bar_paper(web, ((), plan_parting(PLAN), plan_bar(PLAN))), True)
        plan, order = plan_of(web)
        self.assertEqual(plan_web(plan)[0], len(order))

    def test_what_was_told_of_one_way_webs_may_be_handed_in_again(self):
        both = both_ways(WEB)
        self.assertIs(is_led_ring(both, some_ring(both)), True)
        self.assertIs(is_led(upward(WEB), least_order(upward((3, ((0, 1), (1, 2)))))), True)
        self.assertIs(is_pairs(both, some_pairs(both)), True)
        self.assertIs(is_marks(both, some_marks(both)), True)

    def test_what_was_told_of_partings_may_be_handed_in_again(self):
        self.assertEqual(led_parting(ORDERED, pairs_along(ORDERED, some_led(ORDERED))), some_led(ORDERED))
        self.assertIs(is_way_paper(ORDERED, way_paper(ORDERED)), True)
        self.assertEqual(round_of(TWOFOLD, round_pairs(TWOFOLD, some_round(TWOFOLD))), some_round(TWOFOLD))
        self.assertIs(is_round_paper(TWOFOLD, round_paper(TWOFOLD)), True)
        self.assertEqual(lack(TWOFOLD, lacking(TWOFOLD)), round_fewest(TWOFOLD))
        self.assertIs(is_spread(WEB, some_spread(WEB)), True)
        self.assertEqual(hold_out(WEB, holding_out(WEB)), fewest_alone(WEB))
        self.assertIs(is_ringed(WEB, ringed_least(WEB)), True)

    def test_a_refusal_is_of_its_class_each_time(self):
        for kind, call, handed in [
                (TooMany, best_bar, (ring(13),)), (NoForest, forest_count, (ring(3),)),
                (NoForest, forest_bar, (ring(3), None)), (NoPlan, plan_web, (deep_plan(25),)), (NoPlan, plan_bar, (None,)),
                (TooMany, four_of, (ring(21),)), (NoPlace, leads_to, (ONE_WAY, 5)), (NoWeb, both_ways, (ONE_WAY,)),
                (NoOneWay, some_pairs, ((2, ((0, 0),)),)), (NoParting, keeps, (WEB, (0,), ())), (NoPlace, shows, (WEB, (5,))),
                (NoOrder, some_led, (ONE_WAY,)), (NoOrder, led_parting, (ONE_WAY, None)), (NoParting, pairs_along, (ORDERED, ())),
                (NoParting, round_of, (TWOFOLD, None)), (NoPlace, lack, (TWOFOLD, (5,))), (NoPlace, hold_out, (WEB, (5,))),
                (TooMany, ringed_least, (ring(9),)), (NoOneWay, some_led, (None,)), (NoWeb, some_spread, (TWOFOLD,))]:
            for _ in range(3):
                refused(self, kind, call, *handed)

    def test_each_refusal_stands_under_few_error(self):
        for call, handed in QUESTIONS:
            if call not in OF_ANYTHING:
                with self.assertRaises(FewError):
                    call(*((None,) + handed[1:]))

    def test_a_refusal_leaves_later_answers_as_they_were(self):
        before = [answer(call, handed) for call, handed in QUESTIONS]
        for call, handed in QUESTIONS:
            if call not in OF_ANYTHING:
                refused(self, answer(call, (None,) + handed[1:]), call, *((None,) + handed[1:]))
        self.assertEqual([answer(call, handed) for call, handed in QUESTIONS], before)


if __name__ == "__main__":
    unittest.main()
