"""Lots that are just filled, and webs shrunk by a lot and within one."""

from rootshares.errors import NoPlace
from rootshares.reached import places_beyond
from rootshares.shares import MOST_TREES, counts_into, lots_without, need_enough
from rootshares.webs import is_name, need_lot, need_number, need_place, need_web


def need_name_beside(places, thing):
    """Refuse what is no name, or the name of one of some places."""
    if not is_name(thing) or thing in places:
        raise NoPlace("this is no name for a new place")


def web_of(places, rows):
    """A web of places in whatever order and of tie rows that are in order."""
    return (tuple(sorted(places)), tuple(rows))


def just_filled(web, root, many):
    """The sorted lots without the root into which just so many ties lead."""
    need_web(web)
    need_place(web, root)
    need_number(many, 0, MOST_TREES)
    need_enough(web, (root,) * many)
    lots = lots_without(web, root)
    counts = counts_into(web[1], lots)
    return sorted([lot for lot in lots if counts[lot] == many])


def shrunk(web, lot, name):
    """The web with one place instead of those of a lot."""
    need_web(web)
    need_lot(web, lot)
    outside = places_beyond(web, lot)
    need_name_beside(outside, name)
    new = {place: name if place in lot else place for place in web[0]}
    rows = [(tie, new[start], new[end]) for tie, start, end in web[1] if new[start] != new[end]]
    return web_of(list(outside) + [name], rows)


def within(web, lot, name):
    """The web of a lot's places, and of one place for all others."""
    need_web(web)
    need_lot(web, lot)
    need_name_beside(lot, name)
    rows = [(tie, start if start in lot else name, end) for tie, start, end in web[1] if end in lot]
    return web_of(list(lot) + [name], rows)
