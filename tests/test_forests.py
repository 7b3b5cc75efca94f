"""[40], [41]: forests, and their partings to fewest ways that keep told ends."""

import itertools
import random
import time
import unittest

from fewways.bars import is_bar_paper, keeps, shows_with
from fewways.errors import NoForest, NoPlace, NoWeb
from fewways.forests import forest_bar, forest_fewest, forest_parting, is_forest
from fewways.ways import is_parting
from fewways.webs import are_places, web_of
from things import (PETERSEN, bad_places, bad_webs, every_places, every_web, full, path, plain_partings, refused, ring,
                    some_forests, some_webs, star)

CALLS = (forest_fewest, forest_parting, forest_bar)
RINGED = [ring(3), ring(4), ring(60), full(3), full(4), full(60), PETERSEN, web_of(60, [(57, 58), (58, 59), (57, 59)]),
          web_of(7, [(0, 1), (1, 2), (2, 3), (3, 4), (4, 5), (5, 2), (0, 6)]), web_of(6, [(0, 1), (3, 4), (4, 5), (3, 5)])]


def has_ring(web):
    """Tell whether a web has a ring: whether something is left when places with at most one tie are taken off."""
    ties = set(web[1])
    while True:
        often = [place for tie in ties for place in tie]
        kept = {tie for tie in ties if min(often.count(place) for place in tie) > 1}
        if kept == ties:
            return bool(ties)
        ties = kept


class IsForest(unittest.TestCase):
    def test_forests(self):
        for web in [(0, ()), (1, ()), (2, ((0, 1),)), (60, ()), path(60), star(60), path(3),
                    web_of(60, [(at, 59 - at) for at in range(30)])]:
            self.assertIs(is_forest(web), True, web)
        for ties in (0, 1, 30, 59):
            for web in some_forests(60, ties, 5, ties):
                self.assertIs(is_forest(web), True, web)

    def test_rings(self):
        for web in RINGED:
            self.assertIs(is_forest(web), False, web)

    def test_a_tie_more_in_a_tree(self):
        for web in some_forests(12, 11, 10, 5):
            for low, high in itertools.combinations(range(12), 2):
                if (low, high) not in web[1]:
                    self.assertIs(is_forest(web_of(12, list(web[1]) + [(low, high)])), False)

    def test_against_taking_off(self):
        for web in itertools.chain(*(every_web(many) for many in range(6)), some_webs(9, 7, 60, 1), some_webs(9, 8, 60, 2)):
            self.assertIs(is_forest(web), not has_ring(web), web)

    def test_no_web(self):
        for web in bad_webs():
            refused(self, NoWeb, is_forest, web)


class Forests(unittest.TestCase):
    def check(self, web, ends):
        fewest = forest_fewest(web, ends)
        parting = forest_parting(web, ends)
        bar = forest_bar(web, ends)
        self.assertIs(is_parting(web, parting), True)
        self.assertIs(keeps(web, ends, parting), True, (web, ends))
        self.assertEqual(len(parting), fewest)
        self.assertIs(are_places(web[0], bar), True)
        self.assertEqual(shows_with(web, ends, bar), fewest, (web, ends))
        self.assertIs(is_bar_paper(web, (ends, parting, bar)), True)
        return fewest

    def check_all(self, web):
        partings = plain_partings(web)
        for ends in every_places(web[0]):
            kept = [parting for parting in partings
                    if set(ends) <= {place for way in parting for place in (way[0], way[-1])}]
            self.assertEqual(self.check(web, ends), min(len(parting) for parting in kept), (web, ends))

    def test_small_forests_against_all_sets_of_ties(self):
        for many in range(5):
            for web in every_web(many):
                if not has_ring(web):
                    self.check_all(web)
        for many, ties in ((5, 4), (6, 4), (6, 5), (7, 6)):
            for web in some_forests(many, ties, 8, many * ties):
                self.check_all(web)
        for web in some_forests(8, 7, 4, 8):
            self.check_all(web)

    def test_no_places_and_one(self):
        self.assertEqual([call((0, ()), ()) for call in CALLS], [0, (), ()])
        self.assertEqual([call((1, ()), ()) for call in CALLS][:2], [1, ((0,),)])
        self.assertEqual([call((1, ()), (0,)) for call in CALLS][:2], [1, ((0,),)])

    def test_rows(self):
        for many in range(1, 61):
            self.assertEqual(self.check(path(many), ()), 1)
            self.assertEqual(self.check(path(many), tuple(range(many))), (many + 1) // 2)
            self.assertEqual(self.check(path(many), (0,)), 1)
            self.assertEqual(self.check(path(many), (many - 1,)), 1)
            self.assertEqual(self.check(path(many), (many // 2,)), 1 if many < 3 else 2)
        self.assertEqual(forest_parting(path(60), ()), (tuple(range(60)),))
        zigzag = web_of(60, [(at, 59 - at) for at in range(30)] + [(at + 1, 59 - at) for at in range(29)])
        self.assertEqual(self.check(zigzag, ()), 1)

    def test_stars(self):
        for many in range(3, 61):
            self.assertEqual(self.check(star(many), ()), many - 2)
            self.assertEqual(self.check(star(many), (0,)), many - 1)
            self.assertEqual(self.check(star(many), tuple(range(1, many))), many - 2)
            self.assertEqual(self.check(star(many), tuple(range(many))), many - 1)
        hung_low = web_of(60, [(at, 59) for at in range(59)])
        self.assertEqual(self.check(hung_low, ()), 58)

    def test_combs_and_trees_of_two_below_each(self):
        comb = web_of(60, [(at, at + 1) for at in range(29)] + [(at, at + 30) for at in range(30)])
        self.assertEqual(self.check(comb, ()), 15)
        self.assertEqual(self.check(comb, tuple(range(30))), 30)
        tree = web_of(60, [((at - 1) // 2, at) for at in range(1, 60)])
        self.check(tree, ())
        self.check(tree, tuple(range(0, 60, 3)))

    def test_without_ties(self):
        for many in (2, 30, 60):
            for ends in ((), (1,), tuple(range(many))):
                self.assertEqual(self.check((many, ()), ends), many)

    def test_drawn_forests_with_none_some_and_all_told(self):
        chance = random.Random(7)
        begun = time.monotonic()
        for many in range(2, 61):
            for web in some_forests(many, many - 1 - many // 9, 2, many):
                some = tuple(sorted(chance.sample(range(many), chance.randrange(many + 1))))
                counts = [self.check(web, ends) for ends in ((), some, tuple(range(many)))]
                self.assertEqual(counts, sorted(counts))
        self.assertLess(time.monotonic() - begun, 30)


class Refusals(unittest.TestCase):
    def test_no_web_ahead(self):
        for web in bad_webs() + [(4, ((0, 1), (0, 2), (2, 1)))]:
            for call in CALLS:
                refused(self, NoWeb, call, web, ())
                refused(self, NoWeb, call, web, None)

    def test_no_forest_ahead_of_no_place(self):
        for web in RINGED:
            for call in CALLS:
                refused(self, NoForest, call, web, ())
                refused(self, NoForest, call, web, (60,))
                refused(self, NoForest, call, web, None)

    def test_no_places(self):
        for ends in bad_places(5):
            for call in CALLS:
                refused(self, NoPlace, call, path(5), ends)
        for ends in bad_places(0):
            for call in CALLS:
                refused(self, NoPlace, call, (0, ()), ends)


if __name__ == "__main__":
    unittest.main()
