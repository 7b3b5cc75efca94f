"""[12], [13]: ways and partings."""

import itertools
import unittest

from fewways.errors import NoParting, NoWay, NoWeb
from fewways.ways import is_parting, is_way, parting_along, plain, ties_along, written
from things import anything, bad_webs, every_web, full, full_ties, path, refused, ring, same, some_webs, star

WEB = (5, ((0, 1), (0, 2), (1, 2), (2, 3)))
BAD_WAYS = [(4, 0), (0, 3), (1, 3, 2), (0, 1, 0), (0, 1, 2, 0), (2, 2), (0, 1, 1), (5,), (0, 5), (-1,), (4, -1),
            (0, True), (True, 2), (False, 1), [0, 1], [0], "01", ("0", "1"), (0, "1"), (0, None), (0, [1]), ((0, 1),),
            (0, (1,)), {0: 1}, (0, 1, 2, 3, 4), (4, 5), tuple([0, 1] * 3000)]


def no_ways():
    return BAD_WAYS + [thing for thing in anything() if not same(thing, (0,))]


def no_partings():
    """No partings of WEB."""
    found = [((0, 1), (2, 3)), ((0, 1, 2, 3),), ((0, 1), (1, 2), (3,), (4,)), ((0, 1), (2, 3), (4,), (4,)),
             ((0,), (1,), (2,), (3,), (4,), ()), ((), (0, 1), (2, 3), (4,)), ((0, 1), (2, 3, 4)), ((0, 3), (1, 2), (4,)),
             [(0, 1), (2, 3), (4,)], ((0, 1), [2, 3], (4,)), ([0, 1], [2, 3], [4]), ((0, 1), (2, 3), 4),
             ((0, 1), (2, 3), (4,), (5,)), ((0, True), (2, 3), (4,)), ((False, 1), (2, 3), (4,)), ((0, 1), (2, 3), (4,), None),
             ((0, 1), (2, 3), ("4",)), (0, 1, 2, 3, 4), ((0, 1, 2, 0), (3,), (4,)), {(0, 1): (2, 3)}, "0-1 2-3 4",
             (((0, 1), (2, 3), (4,)),), ((0, 1), (2, 3), [4]), ((0, 1), (2, 3), (-1,)), tuple([(0, 1)] * 3000)]
    return found + anything()


def every_way(web):
    """All ways of a web, both ways about, by trying all orders of all places."""
    both = set(web[1]) | {(b, a) for a, b in web[1]}
    for size in range(1, web[0] + 1):
        for way in itertools.permutations(range(web[0]), size):
            if all(step in both for step in zip(way, way[1:])):
                yield way


def every_plain(web):
    """All plain partings of a web, each with its ties, by trying all sets of its ties."""
    ways = {tuple(sorted((min(step), max(step)) for step in zip(way, way[1:]))): way
            for way in every_way(web) if len(way) > 1 and way[0] < way[-1]}
    for size in range(len(web[1]) + 1):
        for ties in itertools.combinations(web[1], size):
            left = set(ties)
            chosen = []
            for along, way in sorted(ways.items(), key=lambda row: -len(row[0])):
                if set(along) <= left and not touched(way, left - set(along)):
                    chosen.append(way)
                    left -= set(along)
            single = [(place,) for place in range(web[0]) if not touched((place,), set(ties))]
            if not left:
                yield ties, tuple(sorted(chosen + single))
            else:
                yield ties, None


def touched(way, ties):
    return any(a in way or b in way for a, b in ties)


class Ways(unittest.TestCase):
    def test_ways(self):
        for way in [(0,), (4,), (0, 1), (1, 0), (2, 3), (0, 1, 2), (0, 2, 1), (3, 2, 0, 1), (0, 1, 2, 3)]:
            self.assertIs(is_way(WEB, way), True, way)
        self.assertIs(is_way(path(60), tuple(range(60))), True)
        self.assertIs(is_way(path(60), tuple(range(59, -1, -1))), True)
        self.assertIs(is_way(full(60), tuple(range(0, 60, 2)) + tuple(range(1, 60, 2))), True)

    def test_other_things(self):
        for thing in no_ways():
            self.assertIs(is_way(WEB, thing), False, str(thing)[:200])
        for thing in anything():
            self.assertIs(is_way((0, ()), thing), False, str(thing)[:200])
        self.assertIs(is_way(path(60), tuple(range(61))), False)
        self.assertIs(is_way(ring(60), tuple(range(60)) + (0,)), False)

    def test_all_orders_of_small_webs(self):
        for web in every_web(4):
            ways = set(every_way(web))
            for size in range(5):
                for thing in itertools.product(range(4), repeat=size):
                    self.assertIs(is_way(web, thing), thing in ways, (web, thing))

    def test_written(self):
        self.assertEqual(written(WEB, (0,)), (0,))
        self.assertEqual(written(WEB, (1, 0)), (0, 1))
        self.assertEqual(written(WEB, (0, 1)), (0, 1))
        self.assertEqual(written(WEB, (3, 2, 0, 1)), (1, 0, 2, 3))
        self.assertEqual(written(WEB, (1, 0, 2, 3)), (1, 0, 2, 3))
        self.assertEqual(written(path(60), tuple(range(59, -1, -1))), tuple(range(60)))

    def test_no_way(self):
        for thing in no_ways():
            refused(self, NoWay, written, WEB, thing)

    def test_no_web_ahead(self):
        for web in bad_webs():
            for thing in [(0,), (7, 7), None]:
                refused(self, NoWeb, is_way, web, thing)
                refused(self, NoWeb, written, web, thing)


class Partings(unittest.TestCase):
    def test_partings(self):
        for parting in [((0, 1), (2, 3), (4,)), ((4,), (3, 2), (1, 0)), ((0,), (1,), (2,), (3,), (4,)),
                        ((4,), (3, 2, 0, 1)), ((1, 2, 0), (4,), (3,))]:
            self.assertIs(is_parting(WEB, parting), True, parting)
        self.assertIs(is_parting((0, ()), ()), True)
        self.assertIs(is_parting((1, ()), ((0,),)), True)
        self.assertIs(is_parting((60, ()), tuple((place,) for place in range(59, -1, -1))), True)
        self.assertIs(is_parting(full(60), (tuple(range(60)),)), True)

    def test_other_things(self):
        for thing in no_partings():
            self.assertIs(is_parting(WEB, thing), False, str(thing)[:200])
        self.assertIs(is_parting((0, ()), ((),)), False)
        self.assertIs(is_parting((0, ()), []), False)
        self.assertIs(is_parting((1, ()), ()), False)
        self.assertIs(is_parting((1, ()), ((False,),)), False)
        self.assertIs(is_parting((1, ()), ((0,), (0,))), False)
        self.assertIs(is_parting(ring(3), ((0, 1, 2, 0),)), False)

    def test_plain(self):
        self.assertEqual(plain((0, ()), ()), ())
        self.assertEqual(plain(WEB, ((4,), (3, 2), (1, 0))), ((0, 1), (2, 3), (4,)))
        self.assertEqual(plain(WEB, ((4,), (3, 2, 0, 1))), ((1, 0, 2, 3), (4,)))
        self.assertEqual(plain(WEB, ((2, 0, 1), (4,), (3,))), ((1, 0, 2), (3,), (4,)))
        self.assertEqual(plain(WEB, ((0, 1), (2, 3), (4,))), ((0, 1), (2, 3), (4,)))

    def test_ties_along(self):
        self.assertEqual(ties_along((0, ()), ()), ())
        self.assertEqual(ties_along(WEB, ((4,), (3, 2), (1, 0))), ((0, 1), (2, 3)))
        self.assertEqual(ties_along(WEB, ((3, 2, 0, 1), (4,))), ((0, 1), (0, 2), (2, 3)))
        self.assertEqual(ties_along(WEB, ((3,), (2,), (0,), (1,), (4,))), ())
        self.assertEqual(ties_along(path(60), (tuple(range(59, -1, -1)),)), path(60)[1])

    def test_no_parting(self):
        for thing in no_partings():
            refused(self, NoParting, plain, WEB, thing)
            refused(self, NoParting, ties_along, WEB, thing)

    def test_no_web_ahead(self):
        for web in bad_webs():
            for thing in [(), ((0,),), ((7, 7),), None]:
                for call in (is_parting, plain, ties_along, parting_along):
                    refused(self, NoWeb, call, web, thing)


class PartingAlong(unittest.TestCase):
    def test_partings_along(self):
        self.assertEqual(parting_along((0, ()), ()), ())
        self.assertEqual(parting_along((1, ()), ()), ((0,),))
        self.assertEqual(parting_along(WEB, ()), ((0,), (1,), (2,), (3,), (4,)))
        self.assertEqual(parting_along(WEB, ((0, 1), (2, 3))), ((0, 1), (2, 3), (4,)))
        self.assertEqual(parting_along(WEB, ((0, 1), (0, 2), (2, 3))), ((1, 0, 2, 3), (4,)))
        self.assertEqual(parting_along(path(60), path(60)[1]), (tuple(range(60)),))
        self.assertEqual(parting_along(full(60), ((0, 59), (1, 58), (1, 59))), ((0, 59, 1, 58),)
                         + tuple((place,) for place in range(2, 58)))

    def test_every_set_of_ties_of_small_webs(self):
        for web in itertools.chain(every_web(4), some_webs(5, 7, 15, 4), [full(5)]):
            for ties, parting in every_plain(web):
                if parting is None:
                    refused(self, NoParting, parting_along, web, ties)
                else:
                    self.assertEqual(parting_along(web, ties), parting)
                    self.assertEqual(ties_along(web, parting), ties)
                    self.assertEqual(plain(web, parting[::-1]), parting)
                    self.assertEqual(plain(web, tuple(way[::-1] for way in parting)), parting)
                    self.assertIs(is_parting(web, parting), True)
                    self.assertEqual(len(ties), web[0] - len(parting))

    def test_three_at_a_place(self):
        refused(self, NoParting, parting_along, star(4), star(4)[1])
        refused(self, NoParting, parting_along, WEB, ((0, 2), (1, 2), (2, 3)))
        refused(self, NoParting, parting_along, star(60), star(60)[1])
        refused(self, NoParting, parting_along, full(60), ((0, 1), (1, 2), (1, 59)))

    def test_rings(self):
        refused(self, NoParting, parting_along, ring(3), ring(3)[1])
        refused(self, NoParting, parting_along, WEB, ((0, 1), (0, 2), (1, 2)))
        refused(self, NoParting, parting_along, ring(60), ring(60)[1])
        refused(self, NoParting, parting_along, full(60), ((0, 1), (3, 4), (3, 5), (4, 5)))
        refused(self, NoParting, parting_along, full(6), ((0, 1), (0, 2), (1, 2), (3, 4), (3, 5), (4, 5)))

    def test_no_ties_of_the_web(self):
        for ties in [((0, 3),), ((0, 4),), ((0, 5),), ((1, 0),), ((2, 3), (0, 1)), ((0, 1), (0, 1)), [(0, 1)], ([0, 1],),
                     (0, 1), ((0, True),), ((False, 1),), ((False, True),), ((True, 2),), ((0,),), ((0, 1, 2),), ("01",),
                     ((0, 1), None), ((0, "1"),), ((1, 1),), ((-1, 0),), {(0, 1): True}, (((0, 1),),), ((0, [1]),),
                     ((0, 1), (3, 2)), ((0, 1), (2, 3), (2, 3)), tuple([(0, 1)] * 3000), full_ties(5)]:
            refused(self, NoParting, parting_along, WEB, ties)

    def test_anything(self):
        for thing in anything():
            if not same(thing, ()):
                refused(self, NoParting, parting_along, WEB, thing)
                refused(self, NoParting, parting_along, (0, ()), thing)
                refused(self, NoParting, parting_along, full(60), thing)


if __name__ == "__main__":
    unittest.main()
