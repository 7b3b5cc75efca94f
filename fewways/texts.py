"""Webs, one-way webs, places and partings as texts, and texts read.

A text is read freely first, with None where no number of a web stands; then what was read is looked at, and must be
written just so again.
"""

from fewways.errors import NoText
from fewways.oneways import check_one_way, is_one_way
from fewways.webs import MOST_PLACES, are_places, check_web, is_web

FIGURES = "0123456789"
NONE = "none"


def is_number(word):
    """Tell of a text whether it is a number as it is written."""
    if word == "" or not all([sign in FIGURES for sign in word]):
        return False
    return word == "0" or word[0] != "0"


def row_text(places, sign):
    """Places with a sign between each two."""
    return sign.join([str(place) for place in places])


def pairs_text(many, pairs, sign):
    """How many places there are, and pairs of them with a sign between both."""
    return f"{many}:" + "".join([" " + row_text(pair, sign) for pair in pairs])


def ways_text(ways, sign):
    """Ways with one blank between each two, each with a sign between its places."""
    return " ".join([row_text(way, sign) for way in ways]) if ways else NONE


def web_text(web):
    """A web as it is written."""
    check_web(web)
    return pairs_text(web[0], web[1], "-")


def one_way_text(web):
    """A one-way web as it is written."""
    check_one_way(web)
    return pairs_text(web[0], web[1], ">")


def places_text(places):
    """Places as they are written."""
    return row_text(places, " ") if places else NONE


def parting_text(parting):
    """A parting as it is written."""
    return ways_text(parting, "-")


def led_text(parting):
    """A one-way parting as it is written."""
    return ways_text(parting, ">")


def numbers_read(words):
    """A tuple with the number of each word, None for what is no number that a web has."""
    known = {str(number): number for number in range(MOST_PLACES + 1)}
    return tuple([known.get(word) for word in words])


def pairs_read(text, sign):
    """How many places a text tells, and the tuple of the pairs with a sign between both."""
    words = text.split(" ")
    pairs = [word.split(sign) for word in words[1:]]
    return numbers_read([words[0][:-1]])[0], tuple([numbers_read(pair) for pair in pairs])


def web_read(text):
    """The web that is written so."""
    if isinstance(text, str):
        web = pairs_read(text, "-")
        if is_web(web) and web_text(web) == text:
            return web
    raise NoText("no web is written so")


def one_way_read(text):
    """The one-way web that is written so."""
    if isinstance(text, str):
        web = pairs_read(text, ">")
        if is_one_way(web) and one_way_text(web) == text:
            return web
    raise NoText("no one-way web is written so")


def places_read(text):
    """The places that are written so, whatever web they are of."""
    if isinstance(text, str):
        places = () if text == NONE else numbers_read(text.split(" "))
        if are_places(MOST_PLACES, places):
            return places
    raise NoText("no places are written so")
