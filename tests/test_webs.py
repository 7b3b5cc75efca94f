"""[10], [11]: webs, what is tied, parts, webs without some places."""

import itertools
import unittest

from fewways.errors import NoPlace, NoWeb
from fewways.webs import is_web, parts, tied, web_of, without
from things import anything, bad_webs, every_web, full, full_ties, path, refused, ring, same, some_webs, star

WEB = (5, ((0, 3), (1, 2), (1, 4), (2, 4)))


class IsWeb(unittest.TestCase):
    def test_webs(self):
        for web in [(0, ()), (1, ()), (2, ()), (2, ((0, 1),)), (60, ()), (60, ((0, 59),)), (60, ((58, 59),)),
                    (3, ((0, 1), (0, 2))), (3, ((0, 2), (1, 2))), WEB, full(60), path(60), ring(60), star(60)]:
            self.assertIs(is_web(web), True, web)

    def test_all_small_webs(self):
        for many in range(5):
            for web in every_web(many):
                self.assertIs(is_web(web), True, web)

    def test_other_things(self):
        for thing in bad_webs():
            self.assertIs(is_web(thing), False, str(thing)[:200])

    def test_full_web_out_of_order(self):
        ties = full_ties(60)
        self.assertIs(is_web((60, ties[:-2] + (ties[-1], ties[-2]))), False)
        self.assertIs(is_web((60, ties + (ties[-1],))), False)
        self.assertIs(is_web((60, (ties[0],) + ties)), False)
        self.assertIs(is_web((59, ties)), False)
        self.assertIs(is_web((60, list(ties))), False)


class WebOf(unittest.TestCase):
    def test_no_pairs(self):
        for many in (0, 1, 2, 60):
            self.assertEqual(web_of(many, []), (many, ()))

    def test_either_place_ahead_twice_in_any_order(self):
        self.assertEqual(web_of(3, [(2, 0)]), (3, ((0, 2),)))
        self.assertEqual(web_of(3, [(0, 2), (2, 0), (0, 2)]), (3, ((0, 2),)))
        self.assertEqual(web_of(4, [(3, 2), (1, 0), (0, 1), (2, 0)]), (4, ((0, 1), (0, 2), (2, 3))))
        for order in itertools.permutations([(1, 0), (0, 2), (3, 1), (2, 3), (0, 1)]):
            self.assertEqual(web_of(4, list(order)), (4, ((0, 1), (0, 2), (1, 3), (2, 3))))

    def test_full_web_of_turned_pairs(self):
        self.assertEqual(web_of(60, [(high, low) for low, high in full_ties(60)][::-1]), full(60))

    def test_what_is_told_is_a_web(self):
        self.assertIs(is_web(web_of(12, [(11, 0), (10, 2), (2, 10)])), True)
        self.assertIsInstance(web_of(2, [(1, 0)])[1], tuple)

    def test_wrong_many(self):
        for many in [61, -1, 10 ** 29, True, False, "3", "", None, (), (3,), [], [3], {}]:
            refused(self, NoWeb, web_of, many, [])

    def test_wrong_pairs(self):
        for pairs in anything() + [((0, 1),), {(0, 1): True}, ((0, 1), (1, 2))]:
            if not same(pairs, [], [(0, 1)]):
                refused(self, NoWeb, web_of, 3, pairs)

    def test_wrong_pair(self):
        for pair in anything() + [(0, 0), (2, 2), (0, 3), (3, 0), (-1, 1), (1, -1), (0, 1, 2), [0, 1], (0, True),
                                  (True, 0), (False, 1), (2, False), ("0", 1), (0, "1"), (0, None), ((0, 1),), (0, [1])]:
            refused(self, NoWeb, web_of, 3, [pair])
            refused(self, NoWeb, web_of, 3, [(0, 1), pair])
            refused(self, NoWeb, web_of, 3, [pair, (0, 1)])

    def test_no_place_to_pair(self):
        refused(self, NoWeb, web_of, 0, [(0, 1)])
        refused(self, NoWeb, web_of, 1, [(0, 1)])
        refused(self, NoWeb, web_of, 60, [(0, 60)])


class Tied(unittest.TestCase):
    def test_each_place(self):
        self.assertEqual([tied(WEB, place) for place in range(5)], [(3,), (2, 4), (1, 4), (0,), (1, 2)])

    def test_none_and_all(self):
        self.assertEqual(tied((1, ()), 0), ())
        self.assertEqual(tied((60, ()), 59), ())
        for place in (0, 30, 59):
            self.assertEqual(tied(full(60), place), tuple(other for other in range(60) if other != place))

    def test_against_ties(self):
        for web in some_webs(9, 14, 30, 1):
            for place in range(9):
                near = {a + b - place for a, b in web[1] if place in (a, b)}
                self.assertEqual(tied(web, place), tuple(sorted(near)))

    def test_no_web(self):
        for web in bad_webs():
            refused(self, NoWeb, tied, web, 0)
            refused(self, NoWeb, tied, web, "0")

    def test_no_place(self):
        for place in anything() + [5, 60]:
            if not same(place, 0, 1, 3):
                refused(self, NoPlace, tied, WEB, place)
        for place in (0, -1, 1):
            refused(self, NoPlace, tied, (0, ()), place)
        refused(self, NoPlace, tied, full(60), 60)


class Parts(unittest.TestCase):
    def test_parts(self):
        self.assertEqual(parts((0, ())), [])
        self.assertEqual(parts((1, ())), [(0,)])
        self.assertEqual(parts(WEB), [(0, 3), (1, 2, 4)])
        self.assertEqual(parts((60, ())), [(place,) for place in range(60)])
        self.assertEqual(parts((6, ((0, 5), (1, 4), (2, 3)))), [(0, 5), (1, 4), (2, 3)])
        self.assertEqual(parts((6, ((2, 5), (3, 4), (3, 5)))), [(0,), (1,), (2, 3, 4, 5)])

    def test_far_off_places_are_come_to(self):
        for web in (path(60), ring(60), star(60), full(60)):
            self.assertEqual(parts(web), [tuple(range(60))])
        zigzag = web_of(60, [(at, 59 - at) for at in range(30)] + [(at + 1, 59 - at) for at in range(29)])
        self.assertEqual(parts(zigzag), [tuple(range(60))])
        self.assertEqual(parts(web_of(60, [(at, at + 2) for at in range(58)])),
                         [tuple(range(0, 60, 2)), tuple(range(1, 60, 2))])

    def test_against_joining(self):
        for web in some_webs(12, 8, 60, 2):
            of = list(range(12))
            for a, b in web[1]:
                of = [min(of[a], of[b]) if mark in (of[a], of[b]) else mark for mark in of]
            wanted = [tuple(place for place in range(12) if of[place] == mark) for mark in sorted(set(of))]
            self.assertEqual(parts(web), wanted)

    def test_kinds(self):
        self.assertIsInstance(parts(WEB), list)
        for part in parts(WEB):
            self.assertIsInstance(part, tuple)

    def test_no_web(self):
        for web in bad_webs():
            refused(self, NoWeb, parts, web)


class Without(unittest.TestCase):
    def test_without_none_and_all(self):
        for web in [(0, ()), (1, ()), WEB, full(60)]:
            self.assertEqual(without(web, ()), web)
            self.assertEqual(without(web, tuple(range(web[0]))), (0, ()))

    def test_numbered_anew(self):
        self.assertEqual(without(WEB, (0,)), (4, ((0, 1), (0, 3), (1, 3))))
        self.assertEqual(without(WEB, (1,)), (4, ((0, 2), (1, 3))))
        self.assertEqual(without(WEB, (1, 3)), (3, ((1, 2),)))
        self.assertEqual(without(WEB, (2, 4)), (3, ((0, 2),)))
        self.assertEqual(without(WEB, (4,)), (4, ((0, 3), (1, 2))))
        self.assertEqual(without(full(60), tuple(range(0, 60, 2))), full(30))
        self.assertEqual(without(path(60), (30,)),
                         (59, tuple((at, at + 1) for at in range(58) if at != 29)))

    def test_against_names(self):
        for web in some_webs(6, 8, 20, 3):
            for size in range(7):
                for places in itertools.combinations(range(6), size):
                    kept = [place for place in range(6) if place not in places]
                    ties = [(kept.index(a), kept.index(b)) for a, b in web[1] if a in kept and b in kept]
                    self.assertEqual(without(web, places), (len(kept), tuple(sorted(ties))))

    def test_no_web_ahead_of_no_place(self):
        for web in bad_webs():
            refused(self, NoWeb, without, web, ())
            refused(self, NoWeb, without, web, (7, 7))

    def test_no_places(self):
        for places in anything() + [(5,), (0, 5), (1, 0), (0, 0), (0, 1, 1), (2, 0, 1), [0], [0, 1], (0, True),
                                    (False, 1), (0, "1"), (0, None), (0, [1]), ((0,),), (-1, 0), (0, 10 ** 29), {0: 0}]:
            if not same(places, (), (0,)):
                refused(self, NoPlace, without, WEB, places)
        refused(self, NoPlace, without, (0, ()), (0,))
        refused(self, NoPlace, without, full(60), (60,))


if __name__ == "__main__":
    unittest.main()
