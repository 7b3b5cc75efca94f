"""[92], [93], [94]: a desk, its deeds, questions and refusals."""

import itertools
import random
import unittest

from fewways.bars import shows_with
from fewways.desk import Desk
from fewways.errors import FewError, NoDeed, NoForest, NoPlace, NoRow, NoText, TooMany
from fewways.forests import forest_fewest
from fewways.fours import four_of
from fewways.leads import led_fewest
from fewways.oneways import both_ways, least_order, upward
from fewways.opens import forest_count, open_places
from fewways.pairs import most_pairs
from fewways.reaches import fewest_runs, shelves
from fewways.ringeds import ringed_fewest
from fewways.spreads import fewest_alone
from fewways.texts import parting_text, places_text, web_text
from fewways.trial import fewest, least_parting
from fewways.webs import is_web, parts
from things import PETERSEN, anything, every_web, full, path, refused, ring, some_forests, some_webs, star

DEEDS = ("web", "more", "tie", "cut", "lose", "ends", "back")
ALONE = ("shown", "told", "parts", "fewest", "least", "count", "forest", "open", "four", "alone", "ringed", "pairs", "up", "runs",
         "shelves", "order")
WORDS = DEEDS + ALONE + ("shows",)


def desk_with(*rows):
    """A desk that was told rows, each of them a deed."""
    desk = Desk()
    for row in rows:
        if desk.say(row) != "ok":
            raise AssertionError(row)
    return desk


def answered(desk, row):
    try:
        return desk.say(row)
    except FewError as why:
        return type(why)


def everything(desk):
    """All that a desk answers to questions."""
    shown = [answered(desk, f"shows {text}") for text in ("none", "0", "1", "0 1", "1 3")]
    return [answered(desk, word) for word in ALONE] + shown


def by_functions(web, ends):
    """What a desk with this web and these told ends should answer."""
    def number(call, *handed):
        try:
            return str(call(*handed))
        except FewError as why:
            return type(why)

    def text(write, call, *handed):
        try:
            return write(call(*handed))
        except FewError as why:
            return type(why)

    up = upward(web)
    shown = [number(shows_with, web, ends, bar) for bar in ((), (0,), (1,), (0, 1), (1, 3))]
    return [web_text(web), places_text(ends), str(len(parts(web))), number(fewest, web), text(parting_text, least_parting, web),
            number(forest_count, web), number(forest_fewest, web, ends), text(places_text, open_places, web),
            text(lambda four: "none" if four is None else places_text(four), four_of, web), number(fewest_alone, web),
            number(ringed_fewest, web), number(most_pairs, both_ways(web)), number(led_fewest, up), number(fewest_runs, up),
            str(len(shelves(up))), text(places_text, least_order, up)] + shown


class Model:
    """A desk kept in a plain way: places by names that stay, and all states one behind another."""

    def __init__(self):
        self.states = [([], set(), set())]
        self.made = 0

    def say(self, row):
        words = row.split(" ")
        names, ties, ends = (kind(each) for kind, each in zip((list, set, set), self.states[-1]))
        if words[0] == "back":
            self.states.pop()
            return
        if words[0] == "more":
            self.made += 1
            names.append(self.made)
        elif words[0] == "ends":
            ends = set() if words[1] == "none" else {names[int(word)] for word in words[1:]}
        else:
            places = [names[int(word)] for word in words[1:]]
            if words[0] == "lose":
                names.remove(places[0])
                ends.discard(places[0])
                ties = {tie for tie in ties if places[0] not in tie}
            elif words[0] == "tie":
                ties.add(frozenset(places))
            else:
                ties.remove(frozenset(places))
        self.states.append((names, ties, ends))

    def kept(self):
        names, ties, ends = self.states[-1]
        web = (len(names), tuple(sorted(tuple(sorted(names.index(name) for name in tie)) for tie in ties)))
        return web, tuple(sorted(names.index(name) for name in ends))


class AtFirst(unittest.TestCase):
    def test_no_places_and_no_told_ends(self):
        desk = Desk()
        self.assertEqual(desk.say("shown"), "0:")
        self.assertEqual(desk.say("told"), "none")
        self.assertEqual(everything(desk), by_functions((0, ()), ()))
        for word in ("least", "open", "four", "order"):
            self.assertEqual(desk.say(word), "none")
        for word in ("parts", "fewest", "forest", "alone", "ringed", "pairs", "up", "runs", "shelves"):
            self.assertEqual(desk.say(word), "0")
        self.assertEqual(desk.say("count"), "1")
        self.assertEqual(desk.say("shows none"), "0")

    def test_no_deed_stands(self):
        desk = Desk()
        refused(self, NoDeed, desk.say, "back")
        self.assertEqual(desk.say("shown"), "0:")


class Deeds(unittest.TestCase):
    def test_web(self):
        desk = desk_with("web 4: 0-1 2-3")
        self.assertEqual(desk.say("shown"), "4: 0-1 2-3")
        self.assertEqual(desk.say("ends 1 2"), "ok")
        self.assertEqual(desk.say("web 60:"), "ok")
        self.assertEqual((desk.say("shown"), desk.say("told")), ("60:", "none"))
        self.assertEqual(desk.say("web 0:"), "ok")
        self.assertEqual(desk.say("shown"), "0:")
        for web in [full(60), PETERSEN, ring(60), star(11)]:
            self.assertEqual(desk.say("web " + web_text(web)), "ok")
            self.assertEqual(desk.say("shown"), web_text(web))

    def test_no_text_behind_web(self):
        desk = desk_with("web 3: 0-1", "ends 1")
        before = everything(desk)
        for text in ["", " ", "3", "3: ", " 3:", "3: 1-0", "3: 0-3", "3: 0-1 0-1", "61:", "03:", "3: 0>1", "none", "web 3:", "3:\n", "3:  0-1",
                     "x" * 1990, "-1:", "\u0663:"]:
            refused(self, NoText, desk.say, "web " + text)
        self.assertEqual(everything(desk), before)

    def test_more(self):
        desk = Desk()
        for many in range(1, 61):
            self.assertEqual(desk.say("more"), "ok")
            self.assertEqual(desk.say("shown"), f"{many}:")
        refused(self, TooMany, desk.say, "more")
        self.assertEqual(desk.say("shown"), "60:")
        desk = desk_with("web 3: 0-1 1-2", "ends 1", "more")
        self.assertEqual((desk.say("shown"), desk.say("told")), ("4: 0-1 1-2", "1"))
        desk = desk_with("web " + web_text(full(60)))
        refused(self, TooMany, desk.say, "more")
        self.assertEqual(desk.say("lose 0"), "ok")
        self.assertEqual(desk.say("more"), "ok")
        refused(self, TooMany, desk.say, "more")

    def test_tie_and_cut(self):
        desk = desk_with("web 12:", "ends 2", "tie 0 1", "tie 11 10", "tie 3 1", "tie 2 1")
        self.assertEqual(desk.say("shown"), "12: 0-1 1-2 1-3 10-11")
        self.assertEqual(desk.say("told"), "2")
        self.assertEqual(desk.say("cut 1 2"), "ok")
        self.assertEqual(desk.say("cut 11 10"), "ok")
        self.assertEqual((desk.say("shown"), desk.say("told")), ("12: 0-1 1-3", "2"))
        self.assertEqual(desk.say("tie 1 2"), "ok")
        self.assertEqual(desk.say("shown"), "12: 0-1 1-2 1-3")

    def test_tie_and_cut_refused(self):
        desk = desk_with("web 4: 0-1 2-3", "ends 0")
        before = everything(desk)
        for row in ["tie 0 4", "tie 4 0", "tie 4 4", "tie 4 5", "tie 0 0", "tie 3 3", "cut 0 4", "cut 4 0", "cut 0 0", "cut 9 9", "tie 0 60",
                    "tie 99999999999999999999999999999 0", "cut 0 100000000000000000000000000000", "tie 0 " + "9" * 1990]:
            refused(self, NoPlace, desk.say, row)
        for row in ["tie 0 1", "tie 1 0", "tie 2 3", "tie 3 2", "cut 0 2", "cut 2 0", "cut 1 3"]:
            refused(self, NoDeed, desk.say, row)
        self.assertEqual(everything(desk), before)
        refused(self, NoPlace, Desk().say, "tie 0 0")
        refused(self, NoPlace, Desk().say, "cut 0 1")

    def test_lose(self):
        desk = desk_with("web 5: 0-1 1-2 2-3 3-4", "ends 1 2 4", "lose 2")
        self.assertEqual((desk.say("shown"), desk.say("told")), ("4: 0-1 2-3", "1 3"))
        self.assertEqual(desk.say("lose 0"), "ok")
        self.assertEqual((desk.say("shown"), desk.say("told")), ("3: 1-2", "0 2"))
        self.assertEqual(desk.say("lose 2"), "ok")
        self.assertEqual((desk.say("shown"), desk.say("told")), ("2:", "0"))
        self.assertEqual(desk.say("lose 0"), "ok")
        self.assertEqual((desk.say("shown"), desk.say("told")), ("1:", "none"))
        self.assertEqual(desk.say("lose 0"), "ok")
        self.assertEqual((desk.say("shown"), desk.say("told")), ("0:", "none"))
        refused(self, NoPlace, desk.say, "lose 0")

    def test_told_ends_count_behind_a_lost_place(self):
        desk = desk_with("web 6: 1-2 1-3 1-4 1-5", "ends 0 1 5", "lose 0")
        self.assertEqual((desk.say("told"), desk.say("forest"), desk.say("shows 0")), ("0 4", "4", "4"))

    def test_lose_refused(self):
        desk = desk_with("web 3: 0-1", "ends 0")
        before = everything(desk)
        for row in ["lose 3", "lose 60", "lose 10", "lose 99999999999999999999999999999", "lose " + "9" * 1990]:
            refused(self, NoPlace, desk.say, row)
        self.assertEqual(everything(desk), before)

    def test_ends(self):
        desk = desk_with("web 4: 0-1 2-3")
        for text in ("0", "1 3", "none", "0 1 2 3", "none"):
            self.assertEqual(desk.say("ends " + text), "ok")
            self.assertEqual(desk.say("told"), text)
        self.assertEqual(desk.say("shown"), "4: 0-1 2-3")
        self.assertEqual(desk_with("ends none").say("told"), "none")

    def test_ends_refused(self):
        desk = desk_with("web 4: 0-1 2-3", "ends 1")
        before = everything(desk)
        for text in ["", " ", "0 ", " 0", "1 0", "0 0", "00", "01", "-1", "60", "0 60", "9 8", "None", "none 0", "0,1", "0-1", "()", "0  1", "x"]:
            refused(self, NoText, desk.say, "ends " + text)
        for text in ["4", "0 4", "59", "0 1 2 3 4"]:
            refused(self, NoPlace, desk.say, "ends " + text)
        self.assertEqual(everything(desk), before)
        refused(self, NoPlace, Desk().say, "ends 0")

    def test_back(self):
        rows = ["web 3: 0-1", "more", "ends 1 3", "tie 1 3", "lose 0", "cut 0 2", "ends none", "ends none", "web 2:", "web 2:", "more"]
        desk = Desk()
        states = [everything(desk)]
        for row in rows:
            self.assertEqual(desk.say(row), "ok")
            states.append(everything(desk))
        for at in range(len(rows) - 1, -1, -1):
            self.assertEqual(desk.say("back"), "ok")
            self.assertEqual(everything(desk), states[at], rows[at])
        refused(self, NoDeed, desk.say, "back")
        refused(self, NoDeed, desk.say, "back")
        self.assertEqual(desk.say("more"), "ok")
        self.assertEqual(desk.say("back"), "ok")
        refused(self, NoDeed, desk.say, "back")

    def test_back_brings_told_ends_again(self):
        desk = desk_with("web 3: 0-1", "ends 0 2", "web 5:", "back")
        self.assertEqual((desk.say("shown"), desk.say("told")), ("3: 0-1", "0 2"))
        desk = desk_with("web 3: 0-1", "ends 0 2", "lose 0", "back")
        self.assertEqual((desk.say("shown"), desk.say("told")), ("3: 0-1", "0 2"))

    def test_refused_rows_and_questions_are_no_deeds(self):
        desk = desk_with("web 3: 0-1", "more")
        for row in ["tie 0 0", "tie 0 1", "cut 0 2", "lose 9", "ends 9", "web", "web x", "shown", "told", "open", "shows 0", "mor", "ends x"]:
            answered(desk, row)
        self.assertEqual(desk.say("back"), "ok")
        self.assertEqual(desk.say("shown"), "3: 0-1")
        self.assertEqual(desk.say("back"), "ok")
        self.assertEqual(desk.say("shown"), "0:")
        refused(self, NoDeed, desk.say, "back")

    def test_back_is_undone_by_no_back(self):
        desk = desk_with("more", "more", "back", "more", "back", "back")
        self.assertEqual(desk.say("shown"), "0:")


class Questions(unittest.TestCase):
    def test_against_the_functions(self):
        webs = itertools.chain(*(every_web(many) for many in range(4)), some_webs(6, 7, 10, 1), some_webs(8, 10, 5, 2), some_webs(9, 12, 3, 3),
                               some_forests(9, 7, 5, 4), some_forests(20, 15, 3, 5), some_webs(21, 30, 2, 6), [full(60), PETERSEN, path(12)])
        for web in webs:
            for ends in [(), (0,), (1, 3), tuple(range(0, web[0], 2))]:
                if max(ends, default=-1) < web[0]:
                    desk = desk_with("web " + web_text(web), "ends " + places_text(ends))
                    self.assertEqual(everything(desk), by_functions(web, ends), (web, ends))

    def test_known(self):
        desk = desk_with("web 5: 0-1 0-2 1-2 2-3", "ends 2")
        known = {"shown": "5: 0-1 0-2 1-2 2-3", "told": "2", "parts": "2", "fewest": "2", "least": "0-1-2-3 4", "four": "none",
                 "alone": "1", "ringed": "2", "pairs": "4", "up": "2", "runs": "2", "shelves": "4", "order": "0 1 2 3 4",
                 "shows 2": "3", "shows none": "2", "shows 3": "1", "shows 0 1 2 3 4": "-4"}
        for row, text in known.items():
            self.assertEqual(desk.say(row), text, row)
        for row in ("count", "forest", "open"):
            refused(self, NoForest, desk.say, row)

    def test_known_of_a_forest(self):
        desk = desk_with("web 6: 0-1 0-2 0-3 3-4", "ends 0")
        known = {"count": "3", "forest": "4", "open": "1 2 3 4 5", "told": "0", "fewest": "3", "least": "1 2-0-3-4 5", "four": "1 0 3 4"}
        for row, text in known.items():
            self.assertEqual(desk.say(row), text, row)
        self.assertEqual(desk.say("ends none"), "ok")
        self.assertEqual(desk.say("forest"), "3")

    def test_told_ends_matter_to_forest_and_shows_alone(self):
        desk = desk_with("web 5: 0-1 0-2 0-3 0-4")
        before = everything(desk)
        self.assertEqual(desk.say("ends 0"), "ok")
        unlike = [at for at, (one, other) in enumerate(zip(before, everything(desk))) if one != other]
        self.assertEqual(unlike, [ALONE.index("told"), ALONE.index("forest"), len(ALONE) + 1, len(ALONE) + 3])

    def test_the_most_places_and_one_more(self):
        for word, most in [("fewest", 10), ("least", 10), ("four", 20), ("ringed", 8)]:
            desk = desk_with(f"web {most}:")
            self.assertEqual(type(desk.say(word)), str)
            self.assertEqual(desk.say("more"), "ok")
            refused(self, TooMany, desk.say, word)
        desk = desk_with("web " + web_text(full(60)))
        for word in ("count", "forest", "open"):
            refused(self, NoForest, desk.say, word)
        self.assertEqual([desk.say(word) for word in ("parts", "alone", "pairs", "up", "runs", "shelves")], ["1", "0", "60", "1", "1", "60"])
        self.assertEqual(desk.say("order"), " ".join(str(place) for place in range(60)))

    def test_shows_refused(self):
        desk = desk_with("web 4: 0-1 2-3", "ends 1")
        before = everything(desk)
        for text in ["", " ", "0 ", "1 0", "0 0", "01", "-1", "60", "x", "none none", "0-1"]:
            refused(self, NoText, desk.say, "shows " + text)
        for text in ["4", "0 4", "59"]:
            refused(self, NoPlace, desk.say, "shows " + text)
        self.assertEqual(everything(desk), before)

    def test_questions_change_nothing(self):
        desk = desk_with("web 4: 0-1 2-3", "ends 1")
        before = everything(desk)
        self.assertEqual(everything(desk), before)
        self.assertEqual([answered(desk, word) for word in ALONE[::-1]], before[len(ALONE) - 1::-1])
        self.assertEqual(desk.say("back"), "ok")
        self.assertEqual((desk.say("shown"), desk.say("told")), ("4: 0-1 2-3", "none"))


class Rows(unittest.TestCase):
    def test_no_texts(self):
        desk = desk_with("web 3: 0-1", "ends 1")
        before = everything(desk)
        for thing in anything() + [b"more", ["more"], ("more",), {"more": 1}, 0, None, True, ("web", "3:"), ["tie", 0, 1]]:
            refused(self, NoRow, desk.say, thing)
        self.assertEqual(everything(desk), before)

    def test_other_words(self):
        desk = desk_with("web 3: 0-1", "ends 1")
        before = everything(desk)
        for word in WORDS:
            for other in (word.upper(), word.title(), word + "s" if word + "s" not in WORDS else word + "x", word[:-1], " " + word, "\t" + word,
                          word + "\n", word + "\t", "-" + word, word + ":", word * 2, "\u00a0" + word, word + "\u00a0", word + "\x00"):
                refused(self, NoRow, desk.say, other)
                refused(self, NoRow, desk.say, other + " 0")
                refused(self, NoRow, desk.say, other + " 0 1")
                refused(self, NoRow, desk.say, other + " 3:")
        for row in ["", " ", "  ", "\n", "0", "ok", "none", "undo", "quit", "help", "3: 0-1", "web: 3:", "x" * 2000, " " * 2000]:
            refused(self, NoRow, desk.say, row)
        self.assertEqual(everything(desk), before)

    def test_another_number_of_words(self):
        desk = desk_with("web 3: 0-1", "ends 1")
        before = everything(desk)
        for word in ALONE + ("more", "back"):
            for behind in (" ", " 0", "  ", " none", " 0 1", " x", " " + word):
                refused(self, NoRow, desk.say, word + behind)
        for word in ("tie", "cut"):
            for behind in ("", " ", " 0", " 0 ", " 0 2 ", " 0  2", "  0 2", " 0 2 1", " 0 2 0 2", " 0-2", " 0,2", "  "):
                refused(self, NoRow, desk.say, word + behind)
        for behind in ("", " ", "  ", " 0 ", "  0", " 0 1", " 0-1"):
            refused(self, NoRow, desk.say, "lose" + behind)
        for word in ("web", "ends", "shows"):
            refused(self, NoRow, desk.say, word)
            refused(self, NoText, desk.say, word + " ")
            refused(self, NoText, desk.say, word + "  ")
        self.assertEqual(everything(desk), before)

    def test_words_that_are_no_numbers(self):
        desk = desk_with("web 3: 0-1", "ends 1")
        before = everything(desk)
        for word in ["00", "01", "007", "+1", "-1", "-0", "1.0", "1e0", "0x1", "1_0", "x", "one", "None", "True", "\u0661", "\u00b2", "\uff11", "\u2081",
                     "1\n", "\n1", "1\t", "\t1", "1\u00a0", "0-1", "1,", "(1)", "\u0967", "\u4e00", "0" * 1000, "0" + "9" * 29]:
            refused(self, NoRow, desk.say, f"lose {word}")
            for deed in ("tie", "cut"):
                # Ahead of all else: also where the other one is no place, or both are one.
                for other in ("0", "2", "9", word):
                    refused(self, NoRow, desk.say, f"{deed} {word} {other}")
                    refused(self, NoRow, desk.say, f"{deed} {other} {word}")
        self.assertEqual(everything(desk), before)

    def test_no_row_ahead_of_all_else(self):
        desk = desk_with("web 60:")
        refused(self, NoRow, desk.say, "more 0")
        refused(self, NoRow, desk.say, "fewest 0")
        refused(self, NoRow, Desk().say, "back 0")
        refused(self, NoRow, desk.say, "tie 99 x")

    def test_answers_are_texts(self):
        desk = desk_with("web 4: 0-1 1-2", "ends 0")
        for row in ALONE + ("shows 0", "more", "tie 0 3", "cut 0 3", "lose 0", "ends none", "web 1:", "back"):
            self.assertIs(type(desk.say(row)), str, row)


class DeedsThatStand(unittest.TestCase):
    def rows(self, chance, desk):
        """Rows of all kinds, most of which can be done."""
        while True:
            many = int(desk.say("shown").split(":")[0])
            one, other = chance.randint(0, many), chance.randint(0, many)
            some = sorted(chance.sample(range(many + 1), min(many, chance.randint(0, 3))))
            yield chance.choice(["more", "more", f"tie {one} {other}", f"tie {other} {one}", f"cut {one} {other}", f"lose {one}", "back",
                                 "ends " + places_text(tuple(some)), "shown", "forest"])

    def test_hang_on_them_alone(self):
        chance = random.Random(7)
        for _ in range(12):
            desk, model, stand = Desk(), Model(), []
            for row in itertools.islice(self.rows(chance, desk), 60):
                before = everything(desk)
                told = answered(desk, row)
                if told == "ok":
                    model.say(row)
                    stand = stand[:-1] if row == "back" else stand + [row]
                else:
                    self.assertEqual(everything(desk), before, row)
                web, ends = model.kept()
                self.assertIs(is_web(web), True)
                self.assertEqual((desk.say("shown"), desk.say("told")), (web_text(web), places_text(ends)), stand)
            self.assertEqual(everything(desk), by_functions(*model.kept()))
            self.assertEqual(everything(desk), everything(desk_with(*stand)))
            for _ in stand:
                self.assertEqual(desk.say("back"), "ok")
            self.assertEqual(everything(desk), everything(Desk()))
            refused(self, NoDeed, desk.say, "back")

    def test_two_desks_have_nothing_in_common(self):
        one, other = Desk(), Desk()
        one.say("web 4: 0-1 2-3")
        one.say("ends 1")
        self.assertEqual((other.say("shown"), other.say("told")), ("0:", "none"))
        refused(self, NoDeed, other.say, "back")
        other.say("more")
        other.say("more")
        self.assertEqual(one.say("shown"), "4: 0-1 2-3")
        one.say("back")
        one.say("back")
        self.assertEqual((one.say("shown"), other.say("shown"), Desk().say("shown")), ("0:", "2:", "0:"))
        other.say("back")
        self.assertEqual(other.say("shown"), "1:")


if __name__ == "__main__":
    unittest.main()
