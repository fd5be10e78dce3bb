"""The places that are reached from a place, one tree, and the fewest ties to a place."""

from rootshares.errors import TooFew
from rootshares.trees import way_along
from rootshares.webs import come_to, first_rows, need_place, need_web


def short_way(rows, start, end):
    """A way of as few ties as there is from a place to a place along tie rows, or None."""
    taken = first_rows(rows, start)
    if end != start and end not in [row[2] for row in taken]:
        return None
    return way_along(taken, start, end)


def places_beyond(web, found):
    """The places of a web that are not among those found, in order."""
    return tuple([place for place in web[0] if place not in found])


def reached(web, root):
    """The sorted places to which there is a way from a place, itself too."""
    need_web(web)
    need_place(web, root)
    return sorted(come_to(web[1], root))


def first_tree(web, root):
    """A tree from a root with ways of as few ties as there are."""
    need_web(web)
    need_place(web, root)
    lot = places_beyond(web, come_to(web[1], root))
    if len(lot) > 0:
        raise TooFew(lot)
    return tuple(sorted([row[0] for row in first_rows(web[1], root)]))


def fewest(web, a, b):
    """A way of as few ties as there is from a to b, or None."""
    need_web(web)
    need_place(web, a)
    need_place(web, b)
    return short_way(web[1], a, b)
