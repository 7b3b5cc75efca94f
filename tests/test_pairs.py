"""[62]: pairs and marks of one-way webs."""

import itertools
import time
import unittest

from fewways.errors import NoOneWay
from fewways.oneways import both_ways
from fewways.pairs import is_marks, is_pairs, most_pairs, some_marks, some_pairs
from things import (PETERSEN, anything, bad_one_ways, bad_places, both_arrows, every_one_way, every_places, full, path,
                    refused, ring, same, some_one_ways, some_ordered, star)

WEB = (5, ((0, 1), (1, 2), (2, 0), (2, 3), (3, 2)))


def right_pairs(arrows):
    begins = [begin for begin, end in arrows]
    ends = [end for begin, end in arrows]
    return len(set(begins)) == len(begins) and len(set(ends)) == len(ends)


def most_by_trial(web):
    """How many arrows there are in the greatest set of which no two begin or end together."""
    for size in range(min(web[0], len(web[1])), -1, -1):
        for arrows in itertools.combinations(web[1], size):
            if right_pairs(arrows):
                return size


class IsPairs(unittest.TestCase):
    def test_all_sets_of_arrows(self):
        for web in itertools.chain(every_one_way(3), some_one_ways(4, 7, 10, 1), [WEB]):
            for size in range(len(web[1]) + 1):
                for arrows in itertools.combinations(web[1], size):
                    self.assertIs(is_pairs(web, arrows), right_pairs(arrows))

    def test_known(self):
        for thing in [(), ((0, 1),), ((0, 1), (1, 2)), ((0, 1), (1, 2), (2, 0)), ((2, 3), (3, 2))]:
            self.assertIs(is_pairs(WEB, thing), True, thing)
        self.assertIs(is_pairs((60, both_arrows(60)), tuple((at, (at + 1) % 60) for at in range(60))), True)
        self.assertIs(is_pairs((60, both_arrows(60)), tuple((at, 0) for at in range(1, 60))), False)
        self.assertIs(is_pairs((60, both_arrows(60)), tuple((0, at) for at in range(1, 60))), False)
        self.assertIs(is_pairs((0, ()), ()), True)

    def test_nearly(self):
        for thing in [((1, 2), (0, 1)), ((0, 1), (0, 1)), ((2, 0), (2, 3)), ((1, 2), (3, 2)), ((1, 0),), ((0, 2),), ((0, 4),),
                      ((0, 5),), ((0, 0),), [(0, 1)], ([0, 1],), ((0, True),), ((False, 1),), ((0, 1), (True, 2)), (0, 1),
                      ((0,),), ((0, 1, 2),), ("01",), (("0", "1"),), ((0, 1), None), ((0, "1"),), (((0, 1),),), ((-1, 0),),
                      {(0, 1): True}, [], tuple([(0, 1)] * 3000), ((0, 1), ()), "0>1", ((0, [1]),)]:
            self.assertIs(is_pairs(WEB, thing), False, str(thing)[:100])

    def test_anything(self):
        for thing in anything():
            for web in (WEB, (0, ()), (60, both_arrows(60))):
                self.assertIs(is_pairs(web, thing), same(thing, ()))


class IsMarks(unittest.TestCase):
    def test_all_of_small_webs(self):
        for web in itertools.chain(every_one_way(3), some_one_ways(4, 6, 10, 2)):
            for begins in every_places(web[0]):
                for ends in every_places(web[0]):
                    right = all(begin in begins or end in ends for begin, end in web[1])
                    self.assertIs(is_marks(web, (begins, ends)), right)

    def test_known(self):
        self.assertIs(is_marks((0, ()), ((), ())), True)
        self.assertIs(is_marks((60, ()), ((), ())), True)
        whole = tuple(range(60))
        for marks in [(whole, ()), ((), whole), (whole, whole), (whole[1:], whole[:1])]:
            self.assertIs(is_marks(full(60), marks), marks != (whole[1:], whole[:1]))
        self.assertIs(is_marks(WEB, ((0, 1, 2, 3), ())), True)
        self.assertIs(is_marks(WEB, ((), (0, 1, 2, 3))), True)
        self.assertIs(is_marks(WEB, ((0, 2), (2,))), True)
        self.assertIs(is_marks(WEB, ((0, 2), ())), False)
        self.assertIs(is_marks(WEB, ((2,), (0, 2))), False)

    def test_nearly(self):
        for thing in [((0, 1, 2, 3),), ((0, 1, 2, 3), (), ()), [(0, 1, 2, 3), ()], ([0, 1, 2, 3], ()), ((0, 1, 2, 3), []),
                      ((0, 1, 3, 2), ()), ((0, 1, 2, 2, 3), ()), ((0, 1, 2, 3, 5), ()), ((False, 1, 2, 3), ()),
                      ((0, True, 2, 3), ()), ((0, 1, 2, "3"), ()), ((0, 1, 2, 3), None), (None, (0, 1, 2, 3)), ((0, 1, 2, 3), 0),
                      ((0, 1, 2, 3), ""), {0: (0, 1, 2, 3), 1: ()}, "01", 0, (0, 1), ((0, 1, 2, 3), {}),
                      ((-1, 0, 1, 2, 3), ())]:
            self.assertIs(is_marks(WEB, thing), False, thing)

    def test_anything(self):
        for thing in anything():
            self.assertIs(is_marks(WEB, thing), False)
            self.assertIs(is_marks((0, ()), thing), False)
        for places in bad_places(5):
            self.assertIs(is_marks(WEB, (places, (0, 1, 2, 3))), False)
            self.assertIs(is_marks(WEB, ((0, 1, 2, 3), places)), False)


class Most(unittest.TestCase):
    def check(self, web):
        most = most_pairs(web)
        pairs = some_pairs(web)
        marks = some_marks(web)
        self.assertIs(is_pairs(web, pairs), True, web)
        self.assertEqual(len(pairs), most, web)
        self.assertIs(is_marks(web, marks), True, web)
        self.assertEqual(len(marks[0]) + len(marks[1]), most, web)
        return most

    def test_small_ones_against_all_sets_of_arrows(self):
        webs = itertools.chain(*(every_one_way(many) for many in range(4)), some_one_ways(4, 5, 40, 3),
                               some_one_ways(4, 8, 20, 4), some_one_ways(5, 7, 30, 5), some_one_ways(6, 9, 20, 6),
                               some_ordered(6, 8, 20, 7), some_one_ways(7, 10, 8, 8))
        for web in webs:
            self.assertEqual(self.check(web), most_by_trial(web), web)

    def test_no_places_and_no_arrows(self):
        for many in (0, 1, 60):
            self.assertEqual(self.check((many, ())), 0)
            self.assertEqual(some_pairs((many, ())), ())
            self.assertEqual(some_marks((many, ())), ((), ()))

    def test_known(self):
        self.assertEqual(self.check(path(60)), 59)
        self.assertEqual(self.check(both_ways(path(60))), 60)
        self.assertEqual(self.check(both_ways(path(59))), 58)
        self.assertEqual(self.check(both_ways(ring(59))), 59)
        self.assertEqual(self.check(star(60)), 1)
        self.assertEqual(self.check(both_ways(star(60))), 2)
        self.assertEqual(self.check(both_ways(PETERSEN)), 10)
        self.assertEqual(self.check(WEB), 3)

    def test_begins_must_give_way(self):
        # Each begin but the last has two ends to choose from, and the last one only the first end.
        row = tuple(sorted([(at, at + 30) for at in range(30)] + [(at, at + 31) for at in range(29)]))
        self.assertEqual(self.check((60, row)), 30)
        turned = tuple(sorted([(at, 59 - at) for at in range(30)] + [(at, 58 - at) for at in range(29)]))
        self.assertEqual(self.check((60, turned)), 30)
        chain = tuple(sorted([(at, 30 + at) for at in range(29)] + [(at, 31 + at) for at in range(29)] + [(29, 30)]))
        self.assertEqual(self.check((60, chain)), 30)

    def test_sixty_places_with_many_arrows_in_reasonable_time(self):
        begun = time.monotonic()
        self.assertEqual(self.check((60, both_arrows(60))), 60)
        self.assertEqual(self.check(full(60)), 59)
        for arrows in (40, 60, 90, 150, 400, 1500, 3000):
            for web in some_one_ways(60, arrows, 4, arrows):
                self.check(web)
        few = tuple((begin, end) for begin, end in both_arrows(60) if begin < 20 or end > 50)
        self.assertEqual(self.check((60, few)), 29)
        for arrows in (60, 500, 1700):
            for web in some_ordered(60, arrows, 3, arrows):
                self.check(web)
        self.assertLess(time.monotonic() - begun, 30)


class Refusals(unittest.TestCase):
    def test_no_one_way(self):
        for web in bad_one_ways():
            for call in (is_pairs, is_marks):
                refused(self, NoOneWay, call, web, ())
                refused(self, NoOneWay, call, web, None)
            for call in (most_pairs, some_pairs, some_marks):
                refused(self, NoOneWay, call, web)


if __name__ == "__main__":
    unittest.main()
