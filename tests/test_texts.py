"""[90], [91]: webs, one-way webs, places and partings as texts, and texts read."""

import itertools
import unittest

from fewways.errors import NoOneWay, NoText, NoWeb
from fewways.ringeds import ringed_least
from fewways.texts import (led_text, one_way_read, one_way_text, parting_text, places_read, places_text, web_read, web_text)
from fewways.webs import is_web
from things import (anything, bad_one_ways, bad_webs, both_arrows, every_one_way, every_places, every_web, full, path, refused,
                    ring, some_one_ways, some_webs)

READERS = (web_read, one_way_read, places_read)
WRITERS = {web_read: web_text, one_way_read: one_way_text, places_read: places_text}
WHOLE = tuple(range(60))
# Figures that are not those from 0 to 9, blanks that are no blank, other signs that look alike.
ODD_SIGNS = "\u0660\u0661\u00b2\u00b9\u2081\uff11\u2460\u00bd\u00a0\u3000\u2003\u200b\u2010\u2013\u2212\uff0d\uff1a\uff1e\t\n\r\f\v\x00\x1f\\'\"._+,;eExXbB"


def one_sign_off(text, signs):
    """All texts with one sign less, one more, or another one."""
    for at in range(len(text) + 1):
        yield text[:at] + text[at + 1:]
        for sign in signs:
            yield text[:at] + sign + text[at:]
            yield text[:at] + sign + text[at + 1:]


class Written(unittest.TestCase):
    def test_webs(self):
        self.assertEqual(web_text((4, ((0, 1), (2, 3)))), "4: 0-1 2-3")
        self.assertEqual(web_text((0, ())), "0:")
        self.assertEqual(web_text((1, ())), "1:")
        self.assertEqual(web_text((60, ())), "60:")
        self.assertEqual(web_text((60, ((0, 59), (9, 10), (58, 59)))), "60: 0-59 9-10 58-59")
        self.assertEqual(web_text(full(3)), "3: 0-1 0-2 1-2")

    def test_one_way_webs(self):
        self.assertEqual(one_way_text((4, ((0, 2), (1, 0)))), "4: 0>2 1>0")
        self.assertEqual(one_way_text((0, ())), "0:")
        self.assertEqual(one_way_text((60, ((59, 0),))), "60: 59>0")
        self.assertEqual(one_way_text((2, ((0, 1), (1, 0)))), "2: 0>1 1>0")

    def test_places(self):
        self.assertEqual(places_text(()), "none")
        self.assertEqual(places_text((0,)), "0")
        self.assertEqual(places_text((0, 10, 59)), "0 10 59")
        # Any tuple of places: orders and fours need not rise.
        self.assertEqual(places_text((3, 1, 2, 0)), "3 1 2 0")
        self.assertEqual(places_text(WHOLE), " ".join(str(place) for place in WHOLE))

    def test_partings(self):
        self.assertEqual(parting_text(()), "none")
        self.assertEqual(parting_text(((0,),)), "0")
        self.assertEqual(parting_text(((0, 1), (2,), (5, 4, 3))), "0-1 2 5-4-3")
        self.assertEqual(parting_text((WHOLE,)), "-".join(str(place) for place in WHOLE))
        self.assertEqual(parting_text(ringed_least(full(6))[1]), "0-1-2 3-4-5")
        self.assertEqual(parting_text(((2, 1), (0,))), "2-1 0")

    def test_one_way_partings(self):
        self.assertEqual(led_text(()), "none")
        self.assertEqual(led_text(((0,),)), "0")
        self.assertEqual(led_text(((0, 1), (2,), (5, 4, 3))), "0>1 2 5>4>3")
        self.assertEqual(led_text((WHOLE,)), ">".join(str(place) for place in WHOLE))
        self.assertEqual(led_text(((2, 1), (0,))), "2>1 0")

    def test_refusals(self):
        for web in bad_webs():
            refused(self, NoWeb, web_text, web)
        for web in bad_one_ways():
            refused(self, NoOneWay, one_way_text, web)
        refused(self, NoWeb, web_text, (2, ((1, 0),)))


class Read(unittest.TestCase):
    def test_what_was_written_is_read(self):
        for web in itertools.chain(*(every_web(many) for many in range(5)), some_webs(13, 30, 10, 1), some_webs(60, 90, 5, 2),
                                   [full(60), path(60), ring(60), (60, ()), (11, ((9, 10),))]):
            self.assertEqual(web_read(web_text(web)), web)
            self.assertEqual(one_way_read(one_way_text(web)), web)
        for web in itertools.chain(every_one_way(3), some_one_ways(13, 30, 10, 3), some_one_ways(60, 90, 5, 4), [(60, both_arrows(60))]):
            self.assertEqual(one_way_read(one_way_text(web)), web)
        for places in itertools.chain(every_places(6), [WHOLE, (59,), (9, 10, 59), WHOLE[::7]]):
            self.assertEqual(places_read(places_text(places)), places)

    def test_known(self):
        self.assertEqual(web_read("4: 0-1 2-3"), (4, ((0, 1), (2, 3))))
        self.assertEqual(one_way_read("4: 0>2 1>0"), (4, ((0, 2), (1, 0))))
        self.assertEqual(web_read("0:"), (0, ()))
        self.assertEqual(one_way_read("60:"), (60, ()))
        self.assertEqual(places_read("none"), ())
        self.assertEqual(places_read("0"), (0,))
        self.assertEqual(places_read("0 7 59"), (0, 7, 59))
        for told in (web_read("4: 0-1"), one_way_read("4: 0>1")):
            self.assertEqual([type(told), type(told[1]), type(told[1][0])], [tuple] * 3)

    def test_nearly_webs(self):
        for text in ["", " ", ":", "4", "4 :", " 4:", "4: ", "4:  0-1", "4: 0-1 ", "4: 0-1  2-3", "4:0-1", "4 0-1", "04:", "00:", "+4:",
                     "-4:", "-0:", "61:", "100:", "1000000000000000000000000000000:", "4.0:", "4::", "4:: 0-1", "4: 0-4", "4: 3-4",
                     "4: 1-0", "4: 0-0", "4: 0-1 0-1", "4: 2-3 0-1", "4: 0-2 0-1", "4: 00-1", "4: 0-01", "4: 0--1", "4: -0-1",
                     "4: 0-1-2", "4: 0-1-", "4: 0", "4: 0-", "4: -1", "4: -", "4: 0-1,2-3", "4: 0 -1", "4: 0- 1", "4: none", "none",
                     "0: 0-1", "1: 0-1", "1: 0-0", "4: 0>1", "4; 0-1", "x: 0-1", "4: a-b", "4: 0-1\n", "\n4: 0-1", "4:\t0-1", "4:\n0-1",
                     "4: 0\u20131", "\u0664:", "4\uff1a", "4: 0-\u0661", "4: 0-\u00b2", "60: 0-60", "60: 59-60", "4: 0-1 2-3 x",
                     "4: 0-1 2>3", "0-1", "0-1 4:", "(4, ((0, 1),))", "4 : 0-1", "x" * 2000, ":" * 2000, "4:" + " " * 1998,
                     "9" * 1999 + ":", "4: 0-" + "9" * 1995, "-" * 2000, "None:", "4: None-None", "True:", "4: 0-True"]:
            refused(self, NoText, web_read, text)
            other = text.translate({45: ">", 62: "-"})
            if other not in ("4: 1>0",):
                refused(self, NoText, one_way_read, other)
        self.assertEqual(one_way_read("4: 1>0"), (4, ((1, 0),)))
        refused(self, NoText, one_way_read, "4: 1>0 0>1")
        refused(self, NoText, one_way_read, "4: 0-1")

    def test_nearly_places(self):
        for text in ["", " ", "None", "NONE", "none ", " none", "none none", "0 none", "none 0", "()", "(0,)", "0,1", "0, 1", "0  1",
                     " 0", "0 ", "0 1 ", "01", "00", "0 01", "+1", "-1", "-0", "60", "0 60", "1 0", "0 0", "0 1 1", "0-1", "0>1", "1.0",
                     "0\n", "0\t1", "0\n1", "a", "\u0661", "\u00b2", "\uff11", "0 \u0661", "0\u00a01", "1_0", "0x1", "1e0", "x" * 2000,
                     "9" * 30, "9" * 2000, " " * 2000, "0 " * 1000, "10000000000000000000000000000", "True", "0:", "0: 0"]:
            refused(self, NoText, places_read, text)

    def test_texts_with_one_sign_off(self):
        signs = "0123456789->: none" + ODD_SIGNS
        texts = {web_read: ["0:", "4: 0-1 2-3", "12: 0-11 9-10", "60: 58-59"],
                 one_way_read: ["0:", "4: 0>2 1>0", "12: 0>11 10>9", "60: 59>58"],
                 places_read: ["none", "0", "0 1 10 59", "9 10"]}
        for reader, known in texts.items():
            for text in known:
                read = 0
                for other in one_sign_off(text, signs):
                    try:
                        told = reader(other)
                    except NoText:
                        continue
                    self.assertEqual(WRITERS[reader](told), other)
                    read += 1
                self.assertGreater(read, 0)

    def test_what_is_read_is_just_what_is_written(self):
        # All short texts of some signs: read is just what is among the written ones.
        webs = {web_text(web): web for many in range(3) for web in every_web(many)}
        for size in range(7):
            for text in map("".join, itertools.product("012: -", repeat=size)):
                try:
                    told = web_read(text)
                except NoText:
                    self.assertNotIn(text, webs)
                    continue
                self.assertIs(is_web(told), True)
                self.assertEqual(web_text(told), text)

    def test_of_anything(self):
        for reader in READERS:
            for thing in anything() + bad_webs() + [(4, ((0, 1),)), (0, ()), b"4: 0-1", b"none", ["4: 0-1"], ("none",), 4, ["none"],
                                                    {"none": ()}, [], {"0:": 1}]:
                if not (reader is places_read and thing == "0"):
                    refused(self, NoText, reader, thing)

    def test_asked_again(self):
        for reader, text in [(web_read, "4: 0-1 2-3"), (one_way_read, "4: 0>2 1>0"), (places_read, "0 1")]:
            told = reader(text)
            refused(self, NoText, reader, text + " ")
            self.assertEqual(reader(text), told)


if __name__ == "__main__":
    unittest.main()
