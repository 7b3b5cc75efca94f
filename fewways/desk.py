"""A desk: it keeps a web and told ends, is told rows, and answers each with a text.

What is kept is a tuple (web, ends). A deed tells of what is kept, and of what stands behind its word, what is kept
from then on; a question tells a text.
"""

from fewways.bars import shows_with
from fewways.errors import NoDeed, NoPlace, NoRow, TooMany
from fewways.forests import forest_fewest
from fewways.fours import four_of
from fewways.leads import led_fewest
from fewways.oneways import both_ways, least_order, upward
from fewways.opens import forest_count, open_places
from fewways.pairs import most_pairs
from fewways.reaches import fewest_runs, shelves
from fewways.ringeds import ringed_fewest
from fewways.spreads import fewest_alone
from fewways.texts import is_number, parting_text, places_read, places_text, web_read, web_text
from fewways.trial import fewest, least_parting
from fewways.webs import MOST_PLACES, check_places, parts, tie_of, without

AT_FIRST = ((0, ()), ())
DONE = "ok"


def keep_web(kept, text):
    """The web that is written so is kept, with no told ends."""
    return web_read(text), ()


def keep_ends(kept, text):
    """The places that are written so are the told ends."""
    web = kept[0]
    ends = places_read(text)
    check_places(web[0], ends)
    return web, ends


def add_place(kept, words):
    """There is one place more."""
    web, ends = kept
    if web[0] == MOST_PLACES:
        raise TooMany("there are as many places as can be")
    return (web[0] + 1, web[1]), ends


def place_named(web, word):
    """The place of a web with this number."""
    known = {str(place): place for place in range(web[0])}
    if word not in known:
        raise NoPlace("this is no place of the web")
    return known[word]


def tie_named(web, words):
    """The tie, of the web or not, between the two places with these numbers."""
    one, other = [place_named(web, word) for word in words]
    if one == other:
        raise NoPlace("both places are one")
    return tie_of(one, other)


def tie_two(kept, words):
    """Two places are tied."""
    web, ends = kept
    tie = tie_named(web, words)
    if tie in web[1]:
        raise NoDeed("both places are tied already")
    return (web[0], tuple(sorted(web[1] + (tie,)))), ends


def cut_two(kept, words):
    """Two places are tied no more."""
    web, ends = kept
    tie = tie_named(web, words)
    if tie not in web[1]:
        raise NoDeed("both places are not tied")
    return (web[0], tuple([other for other in web[1] if other != tie])), ends


def lose_place(kept, words):
    """A place is there no more, and those behind it are numbered one less."""
    web, ends = kept
    place = place_named(web, words[0])
    left = [end for end in ends if end < place] + [end - 1 for end in ends if end > place]
    return without(web, (place,)), tuple(left)


def tell_web(web, ends):
    """The web."""
    return web_text(web)


def tell_ends(web, ends):
    """The told ends."""
    return places_text(ends)


def tell_parts(web, ends):
    """How many parts the web has."""
    return str(len(parts(web)))


def tell_fewest(web, ends):
    """Its fewest ways."""
    return str(fewest(web))


def tell_least(web, ends):
    """The least parting of it to fewest ways."""
    return parting_text(least_parting(web))


def tell_count(web, ends):
    """How many partings to fewest ways it has, as a forest."""
    return str(forest_count(web))


def tell_forest(web, ends):
    """Its fewest ways with the told ends, as a forest."""
    return str(forest_fewest(web, ends))


def tell_open(web, ends):
    """Its open places, as a forest."""
    return places_text(open_places(web))


def tell_four(web, ends):
    """The least four places that bar a plan of it."""
    four = four_of(web)
    return places_text(() if four is None else four)


def tell_alone(web, ends):
    """The fewest places alone."""
    return str(fewest_alone(web))


def tell_ringed(web, ends):
    """The fewest ways of a ringed parting."""
    return str(ringed_fewest(web))


def tell_pairs(web, ends):
    """The most pairs both ways."""
    return str(most_pairs(both_ways(web)))


def tell_up(web, ends):
    """The fewest one-way ways upward."""
    return str(led_fewest(upward(web)))


def tell_runs(web, ends):
    """The fewest runs upward."""
    return str(fewest_runs(upward(web)))


def tell_shelves(web, ends):
    """How many shelves there are upward."""
    return str(len(shelves(upward(web))))


def tell_order(web, ends):
    """The least order upward."""
    return places_text(least_order(upward(web)))


BACK = "back"
SHOWS = "shows"
DEEDS = {"web": keep_web, "more": add_place, "tie": tie_two, "cut": cut_two, "lose": lose_place, "ends": keep_ends}
QUESTIONS = {"shown": tell_web, "told": tell_ends, "parts": tell_parts, "fewest": tell_fewest, "least": tell_least,
             "count": tell_count, "forest": tell_forest, "open": tell_open, "four": tell_four, "alone": tell_alone,
             "ringed": tell_ringed, "pairs": tell_pairs, "up": tell_up, "runs": tell_runs, "shelves": tell_shelves,
             "order": tell_order}
WITH_TEXT = ("web", "ends", "shows")
WITH_NUMBERS = {"tie": 2, "cut": 2, "lose": 1}


def is_word(word):
    """Tell whether a row begins with this word."""
    return word in DEEDS or word in QUESTIONS or word == SHOWS or word == BACK


def row_read(row):
    """The first word of a row and what stands behind it: a text as it is, or a list of words."""
    if not isinstance(row, str):
        raise NoRow("this is no text")
    word, blank, text = row.partition(" ")
    if not is_word(word):
        raise NoRow("no row begins so")
    if word in WITH_TEXT:
        if blank == "":
            raise NoRow("a blank is due behind this word")
        return word, text
    words = row.split(" ")[1:]
    if len(words) != WITH_NUMBERS.get(word, 0) or not all([is_number(each) for each in words]):
        raise NoRow("other numbers are due behind this word, or none")
    return word, words


def answer(kept, word, behind):
    """What is answered to a question."""
    web, ends = kept
    if word == SHOWS:
        return str(shows_with(web, ends, places_read(behind)))
    question = QUESTIONS[word]
    return question(web, ends)


class Desk:
    """A desk that is told rows."""

    def __init__(self):
        # What was kept at first, and behind each deed that stands: the last one of these is kept now.
        self.stands = [AT_FIRST]

    def say(self, row):
        """Do the deed, or answer the question, that a row tells."""
        word, behind = row_read(row)
        kept = self.stands[-1]
        if word == BACK:
            self.undo()
        elif word in DEEDS:
            deed = DEEDS[word]
            self.stands.append(deed(kept, behind))
        else:
            return answer(kept, word, behind)
        return DONE

    def undo(self):
        """Undo the last deed that stands."""
        if len(self.stands) == 1:
            raise NoDeed("no deed stands")
        self.stands.pop()
