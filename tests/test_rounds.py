"""[70], [71]: round partings, their pairs, fewest ways, what places show, round papers."""

import itertools
import time
import unittest

from fewways.errors import NoOneWay, NoParting, NoPlace
from fewways.leads import led_fewest
from fewways.oneways import both_ways
from fewways.pairs import is_pairs, most_pairs
from fewways.rounds import (is_round, is_round_paper, lack, lacking, round_fewest, round_of, round_pairs, round_paper,
                            some_round)
from things import (PETERSEN, anything, bad_one_ways, bad_places, both_arrows, covers, every_one_way, every_places, full,
                    led_rings, led_ways, path, refused, ring, same, some_one_ways, some_ordered, star)

WEB = (6, ((0, 1), (1, 2), (2, 0), (2, 3), (3, 2), (3, 4)))
WHOLE = tuple(range(60))


def rounds_of(web):
    return list(covers(web[0], led_ways(web), led_rings(web)))


def arrows_of(parting):
    ways, rings = parting
    steps = [step for way in ways for step in zip(way, way[1:])]
    return tuple(sorted(steps + [step for each in rings for step in zip(each, each[1:] + each[:1])]))


def small_ones():
    return itertools.chain(*(every_one_way(many) for many in range(4)), some_one_ways(4, 4, 20, 1),
                           some_one_ways(4, 7, 15, 2), some_one_ways(5, 8, 8, 3), [(4, both_arrows(4)), (5, ())])


def shown_by_trial(web, places):
    return len(places) - len([end for end in range(web[0]) if any((begin, end) in web[1] for begin in places)])


class IsRound(unittest.TestCase):
    def test_all_of_small_webs(self):
        for web in small_ones():
            for ways, rings in rounds_of(web):
                self.assertIs(is_round(web, (ways, rings)), True, (web, ways, rings))
                self.assertIs(is_round(web, (ways[::-1], rings)), len(ways) < 2)
                self.assertIs(is_round(web, (ways, rings[::-1])), len(rings) < 2)
                self.assertIs(is_round(web, (rings, ways)), web[0] == 0 or (rings, ways) in rounds_of(web))
                self.assertIs(is_round(web, (ways[1:], rings)), not ways)
                self.assertIs(is_round(web, (ways, rings[1:])), not rings)
                self.assertIs(is_round(web, (ways + rings, rings)), not rings)

    def test_just_the_rising_choices(self):
        for web in itertools.chain(every_one_way(2), some_one_ways(3, 4, 4, 4), [(3, both_arrows(3))]):
            right = rounds_of(web)
            rows = list(itertools.chain(*(itertools.permutations(range(web[0]), size) for size in range(web[0] + 1))))
            tuples = list(itertools.chain(*(itertools.product(rows, repeat=size) for size in range(3))))
            some = [thing for thing in tuples if sum(len(row) for row in thing) <= web[0]]
            for thing in itertools.product(some, repeat=2):
                if sum(len(row) for side in thing for row in side) <= web[0]:
                    self.assertIs(is_round(web, thing), thing in right, (web, thing))

    def test_known(self):
        self.assertIs(is_round((0, ()), ((), ())), True)
        self.assertIs(is_round((1, ()), ((), ())), False)
        for thing in [(((3, 4), (5,)), ((0, 1, 2),)), (((0, 1), (4,), (5,)), ((2, 3),)), (((0, 1, 2, 3, 4), (5,)), ()),
                      (((0,), (1,), (2,), (3,), (4,), (5,)), ())]:
            self.assertIs(is_round(WEB, thing), True, thing)
        self.assertIs(is_round(both_ways(ring(60)), ((), (WHOLE,))), True)
        self.assertIs(is_round(both_ways(ring(60)), ((), ((0,) + WHOLE[:0:-1],))), True)
        self.assertIs(is_round(both_ways(ring(60)), ((WHOLE,), ())), True)
        self.assertIs(is_round(both_ways(ring(60)), ((), (WHOLE[1:] + WHOLE[:1],))), False)
        self.assertIs(is_round(both_ways(path(60)), ((), tuple((at, at + 1) for at in range(0, 60, 2)))), True)
        self.assertIs(is_round(both_ways(path(60)), ((), tuple((at + 1, at) for at in range(0, 60, 2)))), False)

    def test_nearly(self):
        ways, rings = ((3, 4), (5,)), ((0, 1, 2),)
        for thing in [(ways,), (ways, rings, ()), [ways, rings], (list(ways), rings), (ways, list(rings)), (rings, ways),
                      (ways[::-1], rings), (ways, ((1, 2, 0),)), (ways, ((2, 0, 1),)), (ways, ((0, 2, 1),)),
                      (ways, ([0, 1, 2],)), (ways, ((0, True, 2),)), (ways, ((False, 1, 2),)), (ways, ((0, 1, 2), ())),
                      (ways + ((),), rings), (((),) + ways, rings), (ways, rings + rings), (ways + ways[1:], rings),
                      (ways, ()), ((), rings), (ways[:1], rings), (ways, ((0, 1, 2), (5,))), (((3, 4),), ((0, 1, 2), (5,))),
                      (((3, 4), (5,), (6,)), rings), (((3, 4), ("5",)), rings), (((3, 4), 5), rings), (ways, (0, 1, 2)),
                      ((ways, rings),), (ways + rings,), {0: ways, 1: rings}, (ways, None), (None, rings), (ways, "012"),
                      (((4,), (5,)), ((0, 1, 2), (3,))), (((3, 4), (5,)), ((0, 1), (2,)))]:
            self.assertIs(is_round(WEB, thing), False, thing)

    def test_anything(self):
        for thing in anything():
            for web in (WEB, (0, ()), (60, both_arrows(60))):
                self.assertIs(is_round(web, thing), False)
            self.assertIs(is_round(WEB, (thing, ((0, 1, 2),))), False)
            self.assertIs(is_round(WEB, (((3, 4), (5,)), thing)), False)
            self.assertIs(is_round((0, ()), (thing, ())), same(thing, ()))
            self.assertIs(is_round((0, ()), ((), thing)), same(thing, ()))


class Pairs(unittest.TestCase):
    def test_both_ways_of_small_webs(self):
        for web in small_ones():
            by_arrows = {arrows_of(parting): parting for parting in rounds_of(web)}
            self.assertEqual(len(by_arrows), len(rounds_of(web)))
            for arrows, parting in by_arrows.items():
                self.assertEqual(round_pairs(web, parting), arrows)
                self.assertEqual(round_of(web, arrows), parting)
                self.assertEqual(len(parting[0]), web[0] - len(arrows))
            for size in range(min(web[0], len(web[1])) + 1):
                for arrows in itertools.combinations(web[1], size):
                    self.assertEqual(is_pairs(web, arrows), arrows in by_arrows)

    def test_known(self):
        self.assertEqual(round_pairs((0, ()), ((), ())), ())
        self.assertEqual(round_of((0, ()), ()), ((), ()))
        self.assertEqual(round_of((1, ()), ()), (((0,),), ()))
        self.assertEqual(round_of((60, ()), ()), (tuple((place,) for place in WHOLE), ()))
        self.assertEqual(round_of(WEB, ((0, 1), (1, 2), (2, 0), (3, 4))), (((3, 4), (5,)), ((0, 1, 2),)))
        self.assertEqual(round_of(WEB, ((2, 3), (3, 2))), (((0,), (1,), (4,), (5,)), ((2, 3),)))
        self.assertEqual(round_pairs(WEB, (((0, 1), (4,), (5,)), ((2, 3),))), ((0, 1), (2, 3), (3, 2)))
        twos = tuple(sorted([(at, at + 1) for at in range(0, 60, 2)] + [(at + 1, at) for at in range(0, 60, 2)]))
        self.assertEqual(round_of((60, both_arrows(60)), twos), ((), tuple((at, at + 1) for at in range(0, 60, 2))))
        back = tuple(sorted((at, (at - 1) % 60) for at in range(60)))
        self.assertEqual(round_of((60, both_arrows(60)), back), ((), ((0,) + WHOLE[:0:-1],)))
        self.assertEqual(round_pairs((60, both_arrows(60)), ((), ((0,) + WHOLE[:0:-1],))), back)

    def test_refusals_in_order(self):
        for web in bad_one_ways():
            for thing in ((), None, ((), ())):
                refused(self, NoOneWay, round_pairs, web, thing)
                refused(self, NoOneWay, round_of, web, thing)
        for thing in anything() + [(((5,), (3, 4)), ((0, 1, 2),)), (((3, 4), (5,)), ((1, 2, 0),)), (((3, 4), (5,)), ()),
                                   [((3, 4), (5,)), ((0, 1, 2),)], (((3, 4), (5,)), [(0, 1, 2)]), ((), ()),
                                   (((3, 4), (5,)), ((0, True, 2),)), ((0, 1), (1, 2))]:
            refused(self, NoParting, round_pairs, WEB, thing)
        for thing in anything() + [((1, 2), (0, 1)), ((0, 1), (0, 1)), ((2, 0), (2, 3)), ((1, 2), (3, 2)), ((0, 2),), [(0, 1)],
                                   ([0, 1],), ((0, True),), ((0, 1), None), ((0, 6),), ((0, 0),), (((3, 4), (5,)), ())]:
            if not same(thing, ()):
                refused(self, NoParting, round_of, WEB, thing)


class Fewest(unittest.TestCase):
    def check(self, web):
        """What is told agrees, and the paper shows that no fewer do."""
        few = round_fewest(web)
        parting = some_round(web)
        self.assertIs(is_round(web, parting), True, web)
        self.assertEqual(len(parting[0]), few, web)
        places = lacking(web)
        self.assertIs(type(places), tuple)
        self.assertEqual(lack(web, places), few, web)
        self.assertEqual(shown_by_trial(web, places), few, web)
        paper = round_paper(web)
        self.assertIs(type(paper), tuple)
        self.assertIs(is_round_paper(web, paper), True, web)
        self.assertIs(is_round(web, paper[0]), True)
        self.assertEqual(len(paper[0][0]), few)
        self.assertEqual(shown_by_trial(web, paper[1]), few)
        self.assertEqual(few, web[0] - most_pairs(web))
        return few

    def test_small_ones_against_all_round_partings(self):
        for web in small_ones():
            few = self.check(web)
            self.assertEqual(few, min(len(ways) for ways, rings in rounds_of(web)), web)
            self.assertEqual(few, max(shown_by_trial(web, places) for places in every_places(web[0])), web)

    def test_known(self):
        self.assertEqual(self.check((0, ())), 0)
        self.assertEqual((some_round((0, ())), lacking((0, ()))), (((), ()), ()))
        self.assertEqual(round_paper((0, ())), (((), ()), ()))
        self.assertEqual(self.check((1, ())), 1)
        self.assertEqual(self.check((2, ((0, 1), (1, 0)))), 0)
        self.assertEqual(some_round((2, ((0, 1), (1, 0)))), ((), ((0, 1),)))
        self.assertEqual(self.check((60, ())), 60)
        self.assertEqual(self.check(path(60)), 1)
        self.assertEqual(self.check(both_ways(path(60))), 0)
        self.assertEqual(self.check(both_ways(path(59))), 1)
        self.assertEqual(self.check(both_ways(ring(59))), 0)
        self.assertEqual(self.check(both_ways(star(60))), 58)
        self.assertEqual(self.check(star(60)), 59)
        self.assertEqual(self.check(both_ways(PETERSEN)), 0)
        self.assertEqual(self.check(WEB), 2)

    def test_with_an_order_rings_are_of_no_help(self):
        for web in itertools.chain(some_ordered(6, 7, 10, 5), some_ordered(30, 60, 5, 6)):
            self.assertEqual(self.check(web), led_fewest(web))
            self.assertEqual(some_round(web)[1], ())

    def test_sixty_places_in_reasonable_time(self):
        begun = time.monotonic()
        self.assertEqual(self.check((60, both_arrows(60))), 0)
        self.assertEqual(self.check(full(60)), 1)
        for arrows in (20, 40, 60, 90, 150, 400, 3000):
            for web in some_one_ways(60, arrows, 3, arrows):
                self.check(web)
        self.assertLess(time.monotonic() - begun, 30)


class Lack(unittest.TestCase):
    def test_all_places_of_small_webs(self):
        for web in small_ones():
            for places in every_places(web[0]):
                self.assertEqual(lack(web, places), shown_by_trial(web, places))

    def test_known(self):
        self.assertEqual(lack((0, ()), ()), 0)
        self.assertEqual(lack(WEB, ()), 0)
        self.assertEqual(lack(WEB, (4, 5)), 2)
        self.assertEqual(lack(WEB, (2, 3)), -2)
        self.assertEqual(lack(WEB, (1, 3)), 0)
        self.assertEqual(lack(full(60), (0,)), -58)
        self.assertEqual(lack((60, both_arrows(60)), WHOLE), 0)
        self.assertEqual(lack((60, ()), WHOLE), 60)

    def test_refusals_in_order(self):
        for web in bad_one_ways():
            refused(self, NoOneWay, lack, web, ())
            refused(self, NoOneWay, lack, web, None)
        for places in bad_places(6):
            refused(self, NoPlace, lack, WEB, places)
        for places in bad_places(0):
            refused(self, NoPlace, lack, (0, ()), places)


class RoundPapers(unittest.TestCase):
    def test_all_of_small_webs(self):
        for web in itertools.chain(every_one_way(2), every_one_way(3), some_one_ways(4, 5, 5, 7)):
            for parting in rounds_of(web):
                for places in every_places(web[0]):
                    right = shown_by_trial(web, places) == len(parting[0])
                    self.assertIs(is_round_paper(web, (parting, places)), right)

    def test_nearly(self):
        parting = (((3, 4), (5,)), ((0, 1, 2),))
        self.assertIs(is_round_paper(WEB, (parting, (4, 5))), True)
        for thing in [((4, 5), parting), (parting,), (parting, (4, 5), ()), [parting, (4, 5)], (parting, [4, 5]),
                      (list(parting), (4, 5)), (parting, (5, 4)), (parting, (4, 5, 5)), (parting, (4,)), (parting, (4, 5, 6)),
                      (parting, (4, "5")), (parting, ()), ((((5,), (3, 4)), ((0, 1, 2),)), (4, 5)), (parting, (2, 3)),
                      ((((0, 1), (4,), (5,)), ((2, 3),)), (4, 5)), (parting, None), (None, (4, 5)), {parting: (4, 5)},
                      ((((3, 4), (5,)), ((0, True, 2),)), (4, 5)), (((3, 4), (5,)), (4, 5)), parting]:
            self.assertIs(is_round_paper(WEB, thing), False, thing)
        self.assertIs(is_round_paper((2, ()), ((((0,), (1,)), ()), (0, True))), False)

    def test_anything(self):
        for thing in anything():
            self.assertIs(is_round_paper(WEB, thing), False)
            self.assertIs(is_round_paper((0, ()), thing), False)
            self.assertIs(is_round_paper(WEB, (thing, (4, 5))), False)
            self.assertIs(is_round_paper((0, ()), (((), ()), thing)), same(thing, ()))
        for places in bad_places(6):
            self.assertIs(is_round_paper(WEB, ((((3, 4), (5,)), ((0, 1, 2),)), places)), False)


class Refusals(unittest.TestCase):
    def test_no_one_way(self):
        for web in bad_one_ways():
            for thing in ((), None):
                refused(self, NoOneWay, is_round, web, thing)
                refused(self, NoOneWay, is_round_paper, web, thing)
            for call in (round_fewest, some_round, lacking, round_paper):
                refused(self, NoOneWay, call, web)


if __name__ == "__main__":
    unittest.main()
