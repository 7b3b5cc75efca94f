"""[20], [21], [22]: webs of at most ten places, by trial."""

import itertools
import math
import time
import unittest

from fewways.errors import NoWeb, TooMany
from fewways.trial import counted, fewest, least_parting, through_ends
from fewways.ways import is_parting, plain
from fewways.webs import is_web, web_of
from things import PETERSEN, bad_webs, every_web, full, path, plain_partings, refused, ring, some_webs, star

CALLS = (fewest, least_parting, counted, through_ends)


def ends_by_orders(web):
    """The ends of ways through all places, by going on from each place wherever one can."""
    near = {place: [a + b - place for a, b in web[1] if place in (a, b)] for place in range(web[0])}
    found = set()

    def go_on(way):
        if len(way) == web[0]:
            found.add((min(way[0], way[-1]), max(way[0], way[-1])))
        for place in near[way[-1]]:
            if place not in way:
                go_on(way + [place])

    for place in range(web[0]):
        go_on([place])
    return sorted(found)


def full_counted(many):
    """How many plain partings a full web has, by sizes alone."""
    tables = [{0: 1}]
    for places in range(1, many + 1):
        table = {}
        for size in range(1, places + 1):
            ways = 1 if size == 1 else math.factorial(size) // 2
            for number, times in tables[places - size].items():
                more = math.comb(places - 1, size - 1) * ways * times
                table[number + 1] = table.get(number + 1, 0) + more
        tables.append(table)
    return dict(sorted(tables[many].items()))


class AgainstAllSetsOfTies(unittest.TestCase):
    def check(self, web):
        partings = plain_partings(web)
        least = min(len(parting) for parting in partings)
        self.assertEqual(fewest(web), least, web)
        self.assertEqual(least_parting(web), min(each for each in partings if len(each) == least), web)
        numbers = [len(parting) for parting in partings]
        self.assertEqual(list(counted(web).items()),
                         [(number, numbers.count(number)) for number in range(least, web[0] + 1)], web)
        self.assertEqual(through_ends(web), ends_by_orders(web), web)

    def test_all_webs_of_at_most_four_places(self):
        for many in range(5):
            for web in every_web(many):
                self.check(web)

    def test_webs_of_five_and_six_places(self):
        for ties in range(11):
            for web in some_webs(5, ties, 6, ties):
                self.check(web)
        for ties in (3, 5, 6, 7, 8, 9, 10):
            for web in some_webs(6, ties, 5, ties):
                self.check(web)

    def test_webs_of_more_places(self):
        for many, ties in ((7, 9), (8, 8), (8, 10), (9, 9), (10, 8), (10, 10)):
            for web in some_webs(many, ties, 3, many * ties):
                self.check(web)

    def test_ways_that_do_not_begin_at_their_least_place(self):
        self.check((3, ((0, 1), (0, 2))))
        self.check((6, ((0, 4), (0, 5), (1, 3), (2, 3), (2, 5))))
        self.check((7, ((0, 5), (0, 6), (1, 4), (2, 4), (3, 5), (3, 6))))


class Known(unittest.TestCase):
    def test_no_place_and_one(self):
        self.assertEqual([call((0, ())) for call in CALLS], [0, (), {0: 1}, []])
        self.assertEqual([call((1, ())) for call in CALLS], [1, ((0,),), {1: 1}, [(0, 0)]])

    def test_two_places(self):
        self.assertEqual([call((2, ())) for call in CALLS], [2, ((0,), (1,)), {2: 1}, []])
        self.assertEqual([call((2, ((0, 1),))) for call in CALLS], [1, ((0, 1),), {1: 1, 2: 1}, [(0, 1)]])

    def test_ten_places_without_ties(self):
        single = tuple((place,) for place in range(10))
        self.assertEqual([call((10, ())) for call in CALLS], [10, single, {10: 1}, []])

    def test_path(self):
        self.assertEqual(fewest(path(10)), 1)
        self.assertEqual(least_parting(path(10)), (tuple(range(10)),))
        self.assertEqual(counted(path(10)), {number: math.comb(9, number - 1) for number in range(1, 11)})
        self.assertEqual(through_ends(path(10)), [(0, 9)])

    def test_ring(self):
        self.assertEqual(least_parting(ring(10)), (tuple(range(10)),))
        self.assertEqual(counted(ring(10)), {number: math.comb(10, number) for number in range(1, 11)})
        self.assertEqual(through_ends(ring(10)), list(ring(10)[1]))

    def test_star(self):
        self.assertEqual(fewest(star(10)), 8)
        self.assertEqual(least_parting(star(10)), tuple((place,) for place in range(1, 8)) + ((8, 0, 9),))
        self.assertEqual(counted(star(10)), {8: 36, 9: 9, 10: 1})
        self.assertEqual(through_ends(star(10)), [])

    def test_two_parts(self):
        web = web_of(7, [(0, 2), (2, 4), (4, 6), (1, 3), (3, 5)])
        self.assertEqual(least_parting(web), ((0, 2, 4, 6), (1, 3, 5)))
        self.assertEqual(through_ends(web), [])

    def test_petersen(self):
        self.assertEqual(fewest(PETERSEN), 1)
        apart = [pair for pair in itertools.combinations(range(10), 2) if pair not in PETERSEN[1]]
        self.assertEqual(through_ends(PETERSEN), apart)
        self.assertEqual(sum(counted(PETERSEN).values()), len(plain_partings(PETERSEN)))

    def test_two_kinds_of_places_four_and_six(self):
        web = web_of(10, [(low, high) for low in range(4) for high in range(4, 10)])
        self.assertEqual(fewest(web), 2)
        self.assertEqual(through_ends(web), [])
        self.assertEqual(least_parting(web), ((4,), (5, 0, 6, 1, 7, 2, 8, 3, 9)))

    def test_full_webs(self):
        for many in range(1, 11):
            self.assertEqual(list(counted(full(many)).items()), list(full_counted(many).items()))
            self.assertEqual(fewest(full(many)), 1)
            self.assertEqual(least_parting(full(many)), (tuple(range(many)),))
        self.assertEqual(sum(counted(full(10)).values()), 14625856)
        self.assertEqual(through_ends(full(10)), list(itertools.combinations(range(10), 2)))

    def test_full_web_of_ten_places_in_reasonable_time(self):
        begun = time.monotonic()
        for call in CALLS:
            call(full(10))
        self.assertLess(time.monotonic() - begun, 10)

    def test_told_partings_are_plain(self):
        for ties in range(0, 22, 3):
            for web in some_webs(10, ties, 2, ties):
                parting = least_parting(web)
                self.assertIs(is_parting(web, parting), True)
                self.assertEqual(plain(web, parting), parting)
                self.assertEqual(len(parting), fewest(web))
                self.assertEqual(list(counted(web)), list(range(fewest(web), 11)))
                self.assertEqual(through_ends(web), ends_by_orders(web))


class Refusals(unittest.TestCase):
    def test_too_many(self):
        for web in [(11, ()), path(11), ring(12), star(13), full(11), (60, ()), full(60)]:
            self.assertIs(is_web(web), True)
            for call in CALLS:
                refused(self, TooMany, call, web)

    def test_no_web_ahead(self):
        for web in bad_webs() + [(11, ((1, 0),)), (11, [(0, 1)]), (61, ()), (60, ((0, 60),))]:
            for call in CALLS:
                refused(self, NoWeb, call, web)


if __name__ == "__main__":
    unittest.main()
