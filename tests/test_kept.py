"""[1] to [4], over the whole program: nothing handed in is changed, told lists and dicts are new, questions are answered
alike, each refusal is of its class alone, the leftmost one ahead, and what is told keeps together."""

import copy
import importlib
import itertools
import unittest

from fewways import errors
from fewways.acrosses import plan_bar, plan_fewest, plan_parting
from fewways.bars import is_bar_paper, keeps, shows_with
from fewways.desk import Desk
from fewways.errors import (FewError, NoDeed, NoForest, NoOneWay, NoOrder, NoParting, NoPlace, NoPlan, NoRow, NoText, NoWay,
                            NoWeb, TooMany)
from fewways.forests import forest_bar, forest_fewest, forest_parting
from fewways.fours import plan_of
from fewways.keepers import keeps_both, kept_fewest, link, link_marks, some_kept, thinned
from fewways.leads import is_way_paper, led_fewest, led_parting, pairs_along, some_led, way_paper
from fewways.oneways import both_ways, is_led_ring, least_order, some_ring, upward
from fewways.opens import open_places
from fewways.pairs import is_marks, is_pairs, most_pairs, some_marks, some_pairs
from fewways.plans import plan_web
from fewways.reaches import fewest_runs, is_run_paper, longest, most_apart, reach, shelves, some_runs
from fewways.ringeds import is_ringed, ringed_fewest, ringed_least
from fewways.rounds import is_round_paper, round_fewest, round_of, round_pairs, round_paper, some_round
from fewways.spreads import fewest_alone, hold_out, holding_out, is_spread, some_spread
from fewways.texts import (led_text, one_way_read, one_way_text, parting_text, places_read, places_text, web_read, web_text)
from fewways.trial import fewest, least_parting
from fewways.ways import is_parting, parting_along, plain, ties_along
from fewways.webs import web_of, without
from things import (INTERFACE, anything, bad_one_ways, bad_webs, deep_plan, every_web, nested, refused, ring, some_forests,
                    some_one_ways, some_ordered, some_plans, some_webs)

WEB = (5, ((0, 1), (0, 2), (1, 2), (2, 3)))
PARTING = ((4,), (3, 2), (1, 0))
FOREST = (6, ((0, 1), (0, 2), (0, 3), (3, 4)))
ONE_WAY = (5, ((0, 1), (1, 2), (2, 0), (2, 3), (3, 2)))
ORDERED = (5, ((0, 2), (1, 2), (2, 3), (2, 4)))
LED = ((0, 2, 3), (1,), (4,))
ROUND = (((4,),), ((0, 1), (2, 3)))
TWOFOLD = (5, ((0, 1), (1, 0), (1, 2), (2, 3), (3, 2)))
PLAN = ("across", (("one",), ("beside", (("one",), ("one",), ("one",)))))
# For each function things to hand in, and the class that refuses None in place of each; True where anything may be asked,
# None where nothing is promised of things of other kinds.
ROWS = {
    "is_web": [(WEB, True)], "web_of": [(5, NoWeb), ([(2, 1), (0, 1), (1, 2)], NoWeb)], "tied": [(WEB, NoWeb), (2, NoPlace)],
    "parts": [(WEB, NoWeb)], "without": [(WEB, NoWeb), ((1, 3), NoPlace)],
    "is_way": [(WEB, NoWeb), ((1, 0), True)], "written": [(WEB, NoWeb), ((1, 0), NoWay)],
    "is_parting": [(WEB, NoWeb), (PARTING, True)], "plain": [(WEB, NoWeb), (PARTING, NoParting)],
    "ties_along": [(WEB, NoWeb), (PARTING, NoParting)], "parting_along": [(WEB, NoWeb), (((0, 1), (2, 3)), NoParting)],
    "fewest": [(WEB, NoWeb)], "least_parting": [(WEB, NoWeb)], "counted": [(WEB, NoWeb)],
    "through_ends": [((3, ((0, 1), (1, 2))), NoWeb)],
    "shows": [(WEB, NoWeb), ((2,), NoPlace)], "keeps": [(WEB, NoWeb), ((0, 1), NoPlace), (PARTING, NoParting)],
    "shows_with": [(WEB, NoWeb), ((1,), NoPlace), ((1, 2), NoPlace)], "best_bar": [(WEB, NoWeb)],
    "is_bar_paper": [(WEB, NoWeb), (((1, 2), PARTING, (1, 2)), True)],
    "is_forest": [(WEB, NoWeb)], "forest_fewest": [(FOREST, NoWeb), ((0, 3), NoPlace)],
    "forest_parting": [(FOREST, NoWeb), ((0, 3), NoPlace)], "forest_bar": [(FOREST, NoWeb), ((0, 3), NoPlace)],
    "forest_count": [(FOREST, NoWeb)], "open_places": [(FOREST, NoWeb)],
    "is_plan": [(PLAN, True)], "plan_web": [(PLAN, NoPlan)],
    "is_four": [(WEB, NoWeb), ((0, 1, 2, 3), True)], "four_of": [((4, ((0, 1), (1, 2), (2, 3))), NoWeb)], "plan_of": [(WEB, NoWeb)],
    "plan_fewest": [(PLAN, NoPlan)], "plan_parting": [(PLAN, NoPlan)], "plan_bar": [(PLAN, NoPlan)],
    "is_one_way": [(ONE_WAY, True)], "leads_to": [(ONE_WAY, NoOneWay), (2, NoPlace)], "comes_from": [(ONE_WAY, NoOneWay), (2, NoPlace)],
    "both_ways": [(WEB, NoWeb)], "upward": [(WEB, NoWeb)], "is_led": [(ONE_WAY, NoOneWay), ((0, 1, 2), True)],
    "is_led_ring": [(ONE_WAY, NoOneWay), ((0, 1, 2), True)], "least_order": [(ORDERED, NoOneWay)], "some_ring": [(ONE_WAY, NoOneWay)],
    "is_pairs": [(ONE_WAY, NoOneWay), (((0, 1), (1, 2)), True)], "is_marks": [(ONE_WAY, NoOneWay), (((0, 2), (2,)), True)],
    "most_pairs": [(ONE_WAY, NoOneWay)], "some_pairs": [(ONE_WAY, NoOneWay)], "some_marks": [(ONE_WAY, NoOneWay)],
    "is_led_parting": [(ORDERED, NoOneWay), (LED, True)], "pairs_along": [(ORDERED, NoOneWay), (LED, NoParting)],
    "led_parting": [(ORDERED, NoOneWay), (((1, 2), (2, 4)), NoParting)], "led_fewest": [(ORDERED, NoOneWay)],
    "some_led": [(ORDERED, NoOneWay)], "is_way_paper": [(ORDERED, NoOneWay), ((LED, ((2,), (2,))), True)],
    "way_paper": [(ORDERED, NoOneWay)],
    "is_round": [(TWOFOLD, NoOneWay), (ROUND, True)], "round_pairs": [(TWOFOLD, NoOneWay), (ROUND, NoParting)],
    "round_of": [(TWOFOLD, NoOneWay), (((0, 1), (1, 0), (2, 3)), NoParting)], "round_fewest": [(TWOFOLD, NoOneWay)],
    "some_round": [(TWOFOLD, NoOneWay)], "lack": [(TWOFOLD, NoOneWay), ((1, 4), NoPlace)], "lacking": [(TWOFOLD, NoOneWay)],
    "is_round_paper": [(TWOFOLD, NoOneWay), ((ROUND, (4,)), True)], "round_paper": [(TWOFOLD, NoOneWay)],
    "is_spread": [(WEB, NoWeb), (((3, 4), (), ((0, 1, 2),)), True)], "fewest_alone": [(WEB, NoWeb)], "some_spread": [(WEB, NoWeb)],
    "hold_out": [(WEB, NoWeb), ((3, 4), NoPlace)], "holding_out": [(WEB, NoWeb)],
    "is_ringed": [(WEB, NoWeb), ((((3,), (4,)), ((0, 1, 2),)), True)], "ringed_fewest": [(WEB, NoWeb)], "ringed_least": [(WEB, NoWeb)],
    "thinned": [(ORDERED, NoOneWay), ((1,), NoPlace), ((3,), NoPlace)],
    "keeps_both": [(ORDERED, NoOneWay), ((1,), NoPlace), ((3,), NoPlace), (LED, NoParting)],
    "kept_fewest": [(ORDERED, NoOneWay), ((1,), NoPlace), ((3,), NoPlace)],
    "some_kept": [(ORDERED, NoOneWay), ((1,), NoPlace), ((3,), NoPlace)],
    "link": [(ORDERED, NoOneWay), ((0, 1, 4), NoPlace), ((1, 3, 4), NoPlace)],
    "link_marks": [(ORDERED, NoOneWay), ((0, 1), NoPlace), ((3, 4), NoPlace)],
    "reach": [(ORDERED, NoOneWay)], "is_apart": [(ORDERED, NoOneWay), ((0, 1), True)], "fewest_runs": [(ORDERED, NoOneWay)],
    "some_runs": [(ORDERED, NoOneWay)], "most_apart": [(ORDERED, NoOneWay)],
    "is_run_paper": [(ORDERED, NoOneWay), ((((0, 3), (1, 2, 4)), (0, 1)), True)], "shelves": [(ORDERED, NoOneWay)],
    "longest": [(ORDERED, NoOneWay)],
    "web_text": [(WEB, NoWeb)], "one_way_text": [(ONE_WAY, NoOneWay)], "places_text": [((0, 2), None)],
    "parting_text": [(PARTING, None)], "led_text": [(LED, None)], "web_read": [("5: 0-1 2-3", NoText)],
    "one_way_read": [("5: 1>0 2>3", NoText)], "places_read": [("0 2", NoText)],
}
CALLS = {name: getattr(importlib.import_module("fewways." + module), name) for module, rows in INTERFACE.items() for name in rows}
QUESTIONS = [(CALLS[name], tuple(thing for thing, kind in row)) for name, row in ROWS.items()]
# The classes that a function may refuse with behind those of its arguments.
BEHIND = {"fewest": TooMany, "least_parting": TooMany, "counted": TooMany, "through_ends": TooMany, "best_bar": TooMany,
          "four_of": TooMany, "plan_of": TooMany, "ringed_fewest": TooMany, "ringed_least": TooMany}


def answer(call, handed):
    try:
        return call(*handed)
    except FewError as why:
        return type(why)


def fields(told):
    """The kinds of a thing and of all within it."""
    inner = list(told.items()) if isinstance(told, dict) else told if isinstance(told, (list, tuple)) else []
    return (type(told), [fields(each) for each in inner])


def spoil(told):
    """Change each list and dict that was told, those within others too."""
    if isinstance(told, (list, tuple, dict)):
        for each in list(told.values()) if isinstance(told, dict) else list(told):
            spoil(each)
    if isinstance(told, list):
        told.append("more")
        told[0] = "other"
    if isinstance(told, dict):
        told.clear()
        told["more"] = "other"


class Asked(unittest.TestCase):
    def test_all_functions_are_asked(self):
        self.assertEqual(set(ROWS), set(CALLS))
        self.assertEqual(len(CALLS), 94)
        for module, rows in INTERFACE.items():
            for name, arguments in rows.items():
                self.assertEqual(len(ROWS[name]), len(arguments), name)

    def test_none_of_the_questions_is_refused(self):
        for call, handed in QUESTIONS:
            call(*handed)

    def test_answered_alike(self):
        told = [answer(call, handed) for call, handed in QUESTIONS]
        again = [answer(call, handed) for call, handed in reversed(QUESTIONS)]
        self.assertEqual(told, again[::-1])
        self.assertEqual([fields(each) for each in told], [fields(each) for each in again[::-1]])

    def test_answered_alike_of_equal_things(self):
        for call, handed in QUESTIONS:
            self.assertEqual(call(*copy.deepcopy(handed)), call(*handed), call)

    def test_nothing_handed_in_is_changed(self):
        for call, handed in QUESTIONS:
            before = copy.deepcopy(handed)
            answer(call, handed)
            self.assertEqual(handed, before, call)
            self.assertEqual(repr(handed), repr(before), call)

    def test_nothing_refused_is_changed(self):
        for thing in anything() + bad_webs() + bad_one_ways():
            before = repr(thing)
            for name, row in ROWS.items():
                handed = tuple(thing for thing, kind in row)
                for at in range(len(handed)):
                    if row[at][1] is not None:
                        answer(CALLS[name], handed[:at] + (thing,) + handed[at + 1:])
            self.assertEqual(repr(thing), before)

    def test_told_lists_and_dicts_are_the_askers_own(self):
        for call, handed in QUESTIONS:
            told = call(*handed)
            kept = copy.deepcopy(told)
            if isinstance(told, (list, dict)):
                self.assertIsNot(call(*handed), told)
            spoil(told)
            self.assertEqual(call(*handed), kept, call)

    def test_all_told_after_all_was_spoiled(self):
        before = [copy.deepcopy(call(*handed)) for call, handed in QUESTIONS]
        for call, handed in QUESTIONS:
            spoil(call(*handed))
        self.assertEqual([call(*handed) for call, handed in QUESTIONS], before)

    def test_lists_and_dicts_are_told_where_they_are_due(self):
        kinds = {name: type(CALLS[name](*[thing for thing, kind in row])) for name, row in ROWS.items()}
        self.assertEqual({name for name, kind in kinds.items() if kind is list}, {"parts", "through_ends", "shelves"})
        self.assertEqual({name for name, kind in kinds.items() if kind is dict}, {"counted"})
        self.assertEqual({name for name, kind in kinds.items() if kind is bool},
                         {name for name in kinds if name.startswith("is_")} | {"keeps", "keeps_both"})
        self.assertEqual({name for name, kind in kinds.items() if kind is str}, {name for name in kinds if name.endswith("_text")})
        numbers = {name for name in kinds if name.endswith("fewest")} | {
            "shows", "shows_with", "forest_count", "most_pairs", "lack", "fewest_alone", "hold_out", "fewest_runs"}
        self.assertEqual({name for name, kind in kinds.items() if kind is int}, numbers)
        others = set(kinds) - numbers
        self.assertEqual({kinds[name] for name in others}, {list, dict, bool, str, tuple})

    def test_what_becomes_of_what_was_handed_in_changes_nothing(self):
        pairs = [(2, 1), (0, 1)]
        web = web_of(3, pairs)
        pairs.append((0, 2))
        pairs[0] = (0, 2)
        self.assertEqual(web, (3, ((0, 1), (1, 2))))
        self.assertEqual(web_of(3, pairs), (3, ((0, 1), (0, 2))))


class Refused(unittest.TestCase):
    def test_none_is_refused_by_its_class_or_answered_false(self):
        for name, row in ROWS.items():
            handed = tuple(thing for thing, kind in row)
            for at, (thing, kind) in enumerate(row):
                changed = handed[:at] + (None,) + handed[at + 1:]
                if kind is True:
                    self.assertIs(CALLS[name](*changed), False, name)
                elif kind is not None:
                    refused(self, kind, CALLS[name], *changed)

    def test_what_stands_further_to_the_left_goes_ahead(self):
        for name, row in ROWS.items():
            for wrong in itertools.product((False, True), repeat=len(row)):
                kinds = [kind for (thing, kind), gone in zip(row, wrong) if gone]
                changed = [None if gone else thing for (thing, kind), gone in zip(row, wrong)]
                if kinds and kinds[0] not in (True, None):
                    refused(self, kinds[0], CALLS[name], *changed)

    def test_anything_is_answered_or_refused_as_it_should_be(self):
        for name, row in ROWS.items():
            handed = tuple(thing for thing, kind in row)
            for at, (right, kind) in enumerate(row):
                if kind is None:
                    continue
                for thing in bad_one_ways():
                    told = answer(CALLS[name], handed[:at] + (thing,) + handed[at + 1:])
                    if kind is True:
                        self.assertIs(type(told), bool, name)
                    elif kind in (NoOneWay, NoPlan) or (kind is NoWeb and name != "web_of"):
                        self.assertIs(told, kind, (name, str(thing)[:100]))
                    elif isinstance(told, type):
                        self.assertIs(told, kind, (name, str(thing)[:100]))

    def test_a_refusal_is_of_its_class_alone(self):
        names = [name for name in vars(errors) if name.startswith(("No", "Too"))]
        self.assertEqual(len(names), 12)
        for name in names:
            kind = getattr(errors, name)
            self.assertEqual(kind.__mro__[1:], FewError.__mro__)

    def test_a_refusal_is_of_its_class_each_time(self):
        many = (5, ((0, 1), (1, 0)))
        for kind, name, handed in [
                (TooMany, "best_bar", (ring(13),)), (TooMany, "four_of", (ring(21),)), (TooMany, "plan_of", (ring(21),)),
                (TooMany, "fewest", (ring(11),)), (TooMany, "least_parting", (ring(11),)), (TooMany, "counted", (ring(11),)),
                (TooMany, "through_ends", (ring(11),)), (TooMany, "ringed_least", (ring(9),)), (TooMany, "ringed_fewest", (ring(9),)),
                (NoForest, "forest_count", (ring(3),)), (NoForest, "open_places", (ring(3),)), (NoForest, "forest_bar", (ring(3), None)),
                (NoForest, "forest_fewest", (ring(3), ())), (NoForest, "forest_parting", (ring(3), (9,))),
                (NoPlan, "plan_web", (deep_plan(25),)), (NoPlan, "plan_bar", (None,)), (NoPlace, "leads_to", (ONE_WAY, 5)),
                (NoWeb, "both_ways", (many,)), (NoWeb, "some_spread", (many,)), (NoOneWay, "some_pairs", ((2, ((0, 0),)),)),
                (NoParting, "keeps", (WEB, (0,), ())), (NoPlace, "shows", (WEB, (5,))), (NoParting, "round_of", (TWOFOLD, ((0, 2),))),
                (NoPlace, "link", (ORDERED, (0,), ())), (NoPlace, "link_marks", (ORDERED, (), (1,)))]:
            for _ in range(3):
                refused(self, kind, CALLS[name], *handed)

    def test_without_an_order(self):
        ordered = {"led_parting", "led_fewest", "some_led", "is_way_paper", "way_paper"}
        ordered |= set(INTERFACE["keepers"]) | set(INTERFACE["reaches"])
        for name, row in ROWS.items():
            rest = tuple(thing for thing, kind in row[1:])
            if row[0][1] is NoOneWay:
                told = answer(CALLS[name], (ONE_WAY,) + rest)
                self.assertEqual(told is NoOrder, name in ordered, name)
                if name in ordered:
                    refused(self, NoOrder, CALLS[name], ONE_WAY, *([None] * len(rest)))

    def test_too_many_stands_behind(self):
        for name, kind in BEHIND.items():
            refused(self, kind, CALLS[name], (60, ()))
            refused(self, NoWeb, CALLS[name], (60, ((1, 0),)))
            refused(self, NoWeb, CALLS[name], (61, ()))

    def test_a_refusal_leaves_later_answers_as_they_were(self):
        before = [answer(call, handed) for call, handed in QUESTIONS]
        for name, row in ROWS.items():
            if row[0][1] not in (True, None):
                with self.assertRaises(FewError):
                    CALLS[name](None, *[thing for thing, kind in row[1:]])
        self.assertEqual([answer(call, handed) for call, handed in QUESTIONS], before)

    def test_deep_things(self):
        for wrap in (lambda thing: (thing,), lambda thing: [thing], lambda thing: {0: thing}, lambda thing: (5, thing),
                     lambda thing: ((thing,), ()), lambda thing: ("beside", (thing, thing)), lambda thing: (thing, ((0, 1),))):
            deep = nested(wrap, 11)
            for name, row in ROWS.items():
                handed = tuple(thing for thing, kind in row)
                for at, (right, kind) in enumerate(row):
                    if kind is not None:
                        told = answer(CALLS[name], handed[:at] + (deep,) + handed[at + 1:])
                        self.assertIs(told, False if kind is True else kind, name)


class AtADesk(unittest.TestCase):
    def test_a_question_is_no_deed_and_a_refusal_changes_nothing(self):
        desk = Desk()
        for row in ("web 5: 0-1 0-2 1-2 2-3", "ends 1 3"):
            self.assertEqual(desk.say(row), "ok")
        before = [answer(desk.say, (row,)) for row in ("shown", "told", "shows 2", "least", "count")]
        for row in ("shown", "told", "parts", "fewest", "least", "four", "alone", "ringed", "pairs", "up", "runs", "shelves", "order", "shows 2"):
            self.assertEqual(desk.say(row), desk.say(row))
        for kind, row in [(NoRow, None), (NoRow, "shown now"), (NoText, "web 5"), (NoText, "ends x"), (NoPlace, "lose 5"),
                          (NoDeed, "tie 0 1"), (NoDeed, "cut 0 3"), (NoForest, "count"), (NoForest, "forest"), (NoForest, "open"),
                          (NoPlace, "ends 5"), (NoPlace, "shows 5"), (NoText, "shows 1 0")]:
            refused(self, kind, desk.say, row)
        self.assertEqual([answer(desk.say, (row,)) for row in ("shown", "told", "shows 2", "least", "count")], before)
        self.assertEqual(desk.say("back"), "ok")
        self.assertEqual((desk.say("shown"), desk.say("told")), ("5: 0-1 0-2 1-2 2-3", "none"))
        self.assertEqual(desk.say("back"), "ok")
        refused(self, NoDeed, desk.say, "back")


class ToldAndHandedInAgain(unittest.TestCase):
    def test_partings(self):
        web = without(web_of(7, [(6, 0), (2, 1), (3, 6)]), (1, 4))
        self.assertEqual(web, (5, ((0, 4), (2, 4))))
        self.assertEqual(parting_along(web, ties_along(web, least_parting(web))), least_parting(web))

    def test_texts(self):
        for web in [WEB, FOREST, (0, ()), (60, ())]:
            self.assertEqual(web_read(web_text(web)), web)
        for web in [ONE_WAY, reach(ORDERED), both_ways(WEB), thinned(ORDERED, (3,), ())]:
            self.assertEqual(one_way_read(one_way_text(web)), web)
        for places in [open_places(FOREST), most_apart(ORDERED), holding_out(WEB)]:
            self.assertEqual(places_read(places_text(places)), places)
        self.assertEqual(parting_text(plain(WEB, PARTING)), "0-1 2-3 4")
        self.assertEqual(led_text(some_led(ORDERED)).count(">"), 2)


class TheWhole(unittest.TestCase):
    """What [4] promises of all that is told."""

    def test_partings_and_bars_of_forests(self):
        for web in itertools.chain(some_forests(8, 6, 20, 1), some_forests(9, 8, 10, 2)):
            for ends in ((), (0,), (1, 4, 6), open_places(web)):
                few = forest_fewest(web, ends)
                parting = forest_parting(web, ends)
                self.assertIs(keeps(web, ends, parting), True)
                self.assertEqual(len(parting), few)
                self.assertEqual(shows_with(web, ends, forest_bar(web, ends)), few)
                self.assertIs(is_bar_paper(web, (ends, parting, forest_bar(web, ends))), True)
            self.assertEqual(forest_fewest(web, ()), fewest(web))

    def test_partings_and_bars_of_plans(self):
        for plan in some_plans(5):
            web = plan_web(plan)
            self.assertEqual(plan_fewest(plan), fewest(web))
            self.assertIs(is_bar_paper(web, ((), plan_parting(plan), plan_bar(plan))), True)
            again, order = plan_of(web)
            self.assertEqual(plan_fewest(again), fewest(web))
            self.assertEqual(sorted(order), list(range(web[0])))

    def test_one_way_webs_are_parted_by_pairs(self):
        for web in itertools.chain(some_ordered(8, 10, 20, 3), some_ordered(25, 60, 5, 4)):
            pairs, marks = some_pairs(web), some_marks(web)
            self.assertIs(is_pairs(web, pairs) and is_marks(web, marks), True)
            self.assertEqual(len(pairs), len(marks[0]) + len(marks[1]))
            self.assertEqual(led_fewest(web), web[0] - most_pairs(web))
            self.assertEqual(len(led_parting(web, pairs)), led_fewest(web))
            self.assertEqual(led_parting(web, pairs_along(web, some_led(web))), some_led(web))
            self.assertIs(is_way_paper(web, way_paper(web)), True)
            self.assertEqual(round_fewest(web), led_fewest(web))
            self.assertEqual(kept_fewest(web, (), ()), led_fewest(web))
            self.assertIs(is_run_paper(web, (some_runs(web), most_apart(web))), True)
            self.assertLessEqual(fewest_runs(web), led_fewest(web))
            self.assertEqual(len(shelves(web)), len(longest(web)))

    def test_told_begins_and_ends_are_kept(self):
        for web in some_ordered(9, 14, 15, 5):
            for begins, ends in [((), ()), ((2,), (7,)), ((0, 4), (3, 4)), ((1, 3, 5), (0, 2, 8))]:
                self.assertIs(keeps_both(web, begins, ends, some_kept(web, begins, ends)), True)
                self.assertEqual((link(web, begins, ends) is None) + (link_marks(web, begins, ends) is None), 1)

    def test_rings_let_in_make_ways_no_more(self):
        for web in itertools.chain(every_web(4), some_webs(6, 8, 15, 6), some_webs(8, 12, 5, 7)):
            self.assertLessEqual(round_fewest(both_ways(web)), fewest(web))
            self.assertLessEqual(ringed_fewest(web), fewest(web))
            self.assertLessEqual(fewest_alone(web), ringed_fewest(web))
            self.assertEqual(len(some_spread(web)[0]), hold_out(web, holding_out(web)))
            self.assertIs(is_spread(web, some_spread(web)) and is_ringed(web, ringed_least(web)), True)
            self.assertIs(is_parting(web, least_parting(web)), True)
            self.assertLessEqual(fewest(web), led_fewest(upward(web)))

    def test_orders_and_rings(self):
        for web in some_one_ways(7, 8, 40, 8):
            self.assertEqual((least_order(web) is None) + (some_ring(web) is None), 1)
            self.assertTrue(some_ring(web) is None or is_led_ring(web, some_ring(web)))
            self.assertEqual(round_of(web, round_pairs(web, some_round(web))), some_round(web))
            self.assertIs(is_round_paper(web, round_paper(web)), True)


if __name__ == "__main__":
    unittest.main()
