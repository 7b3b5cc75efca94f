"""One-way partings that keep told begins and told ends, and links of begins and ends."""

from fewways.errors import NoParting, NoPlace
from fewways.leads import is_led_parting, led_fewest, some_led
from fewways.oneways import check_ordered
from fewways.pairs import some_marks
from fewways.webs import check_places


def check_told(web, begins, ends):
    """Refuse what is no one-way web with an order, or no told begins and told ends of it."""
    check_ordered(web)
    check_places(web[0], begins)
    check_places(web[0], ends)


def thinned(web, begins, ends):
    """The one-way web without the arrows that lead to a told begin, or from a told end."""
    check_told(web, begins, ends)
    return web[0], tuple([(begin, end) for begin, end in web[1] if end not in begins and begin not in ends])


def keeps_both(web, begins, ends, parting):
    """Tell whether a one-way parting keeps told begins and told ends."""
    check_told(web, begins, ends)
    if not is_led_parting(web, parting):
        raise NoParting("this is no one-way parting of the one-way web")
    firsts = {way[0]: True for way in parting}
    lasts = {way[-1]: True for way in parting}
    return all([place in firsts for place in begins]) and all([place in lasts for place in ends])


def kept_fewest(web, begins, ends):
    """The fewest ways of a one-way parting that keeps told begins and told ends."""
    return led_fewest(thinned(web, begins, ends))


def some_kept(web, begins, ends):
    """Some one-way parting to fewest ways that keeps told begins and told ends."""
    return some_led(thinned(web, begins, ends))


def is_linked(web, begins, ends):
    """Tell whether there is a link of begins and ends, when all are looked at."""
    check_told(web, begins, ends)
    if len(begins) != len(ends):
        raise NoPlace("there are not as many begins as ends")
    # Each told begin begins a way of its own: where there are no more ways, none begins or ends elsewhere.
    return kept_fewest(web, begins, ends) == len(begins)


def link(web, begins, ends):
    """Some one-way parting of which the first places are just the begins, the last ones just the ends, or None."""
    return some_kept(web, begins, ends) if is_linked(web, begins, ends) else None


def link_marks(web, begins, ends):
    """Some marks of the thinned web that bar a link of begins and ends; None where there is one."""
    return None if is_linked(web, begins, ends) else some_marks(thinned(web, begins, ends))
