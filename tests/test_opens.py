"""[42], [43]: how many partings of a forest have fewest ways, and its open places."""

import math
import time
import unittest

from fewways.errors import NoForest, NoWeb
from fewways.forests import forest_fewest, is_forest
from fewways.opens import forest_count, open_places
from fewways.webs import web_of
from things import (PETERSEN, bad_webs, every_web, full, path, plain_partings, refused, ring, some_forests, star)

CALLS = (forest_count, open_places)


class AgainstAllSetsOfTies(unittest.TestCase):
    def check(self, web):
        partings = plain_partings(web)
        least = min(len(parting) for parting in partings)
        fewest = [parting for parting in partings if len(parting) == least]
        self.assertEqual(forest_count(web), len(fewest), web)
        outer = {place for parting in fewest for way in parting for place in (way[0], way[-1])}
        self.assertEqual(open_places(web), tuple(sorted(outer)), web)

    def test_all_small_forests(self):
        for many in range(6):
            for web in every_web(many):
                if is_forest(web):
                    self.check(web)

    def test_drawn_forests(self):
        for many, ties, times in ((6, 5, 20), (7, 6, 20), (8, 6, 10), (8, 7, 20), (9, 8, 12), (10, 9, 6), (11, 8, 4)):
            for web in some_forests(many, ties, times, many * ties):
                self.check(web)


class Known(unittest.TestCase):
    def test_no_places_and_one(self):
        self.assertEqual([call((0, ())) for call in CALLS], [1, ()])
        self.assertEqual([call((1, ())) for call in CALLS], [1, (0,)])

    def test_rows(self):
        for many in range(2, 61):
            self.assertEqual(forest_count(path(many)), 1)
            self.assertEqual(open_places(path(many)), (0, many - 1))

    def test_stars(self):
        for many in range(3, 61):
            self.assertEqual(forest_count(star(many)), math.comb(many - 1, 2))
            self.assertEqual(open_places(star(many)), tuple(range(1, many)))

    def test_without_ties(self):
        for many in (2, 60):
            self.assertEqual(forest_count((many, ())), 1)
            self.assertEqual(open_places((many, ())), tuple(range(many)))

    def test_far_too_many_to_go_through(self):
        begun = time.monotonic()
        stars = web_of(60, [(at - at % 4, at) for at in range(60) if at % 4])
        self.assertEqual(forest_count(stars), 3 ** 15)
        self.assertEqual(open_places(stars), tuple(at for at in range(60) if at % 4))
        wide = web_of(60, [(at - at % 6, at) for at in range(60) if at % 6])
        self.assertEqual(forest_count(wide), math.comb(5, 2) ** 10)
        # Each place of a row has two more hung from it, and all ways go through these two, none along the row.
        row = web_of(60, [(at, at + 1) for at in range(19)] + [(at, 20 + at) for at in range(20)]
                     + [(at, 40 + at) for at in range(20)])
        self.assertEqual(forest_fewest(row, ()), 20)
        self.assertEqual(forest_count(row), 1)
        self.assertEqual(open_places(row), tuple(range(20, 60)))
        for web in some_forests(60, 59, 10, 3):
            self.assertGreater(forest_count(web), 0)
            fewest = forest_fewest(web, ())
            self.assertEqual(open_places(web),
                             tuple(place for place in range(60) if forest_fewest(web, (place,)) == fewest))
        self.assertLess(time.monotonic() - begun, 20)

    def test_counts_of_parts_are_multiplied(self):
        for one in some_forests(20, 19, 3, 1):
            for other in some_forests(20, 18, 3, 2):
                both = (40, one[1] + tuple((low + 20, high + 20) for low, high in other[1]))
                self.assertEqual(forest_count(both), forest_count(one) * forest_count(other))
                self.assertEqual(open_places(both),
                                 open_places(one) + tuple(place + 20 for place in open_places(other)))

    def test_a_further_place_makes_ways_no_more_just_at_open_places(self):
        for web in some_forests(30, 28, 5, 9):
            fewest = forest_fewest(web, ())
            for place in range(30):
                more = web_of(31, list(web[1]) + [(place, 30)])
                self.assertEqual(forest_fewest(more, ()) == fewest, place in open_places(web))

    def test_kinds(self):
        self.assertIsInstance(open_places(path(5)), tuple)
        self.assertIs(type(forest_count(path(5))), int)


class Refusals(unittest.TestCase):
    def test_no_web_ahead(self):
        for web in bad_webs() + [(4, ((0, 1), (0, 2), (2, 1)))]:
            for call in CALLS:
                refused(self, NoWeb, call, web)

    def test_no_forest(self):
        for web in [ring(3), ring(60), full(4), full(60), PETERSEN, web_of(60, [(57, 58), (58, 59), (57, 59)])]:
            for call in CALLS:
                refused(self, NoForest, call, web)


if __name__ == "__main__":
    unittest.main()
