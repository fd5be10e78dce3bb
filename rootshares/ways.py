"""As many ways as there can be from a place to another one, no tie in two of them."""

from rootshares.reached import places_beyond, short_way
from rootshares.webs import come_to, need_two_places, need_web, rows_of


def rows_left(rows, taken):
    """The rows along which one more way may go: what is taken is given back when it is gone against its sense."""
    back = [(name, end, start) for name, start, end in rows if name in taken]
    return [row for row in rows if row[0] not in taken] + back


def in_one_of(some, others):
    """The names that are in the one row of names and not in the other."""
    return [name for name in some if name not in others] + [name for name in others if name not in some]


def taken_most(rows, a, b):
    """The names of the ties of as many ways as there can be, perhaps with some rings."""
    taken = []
    way = short_way(rows, a, b)
    while way is not None:
        taken = in_one_of(taken, way)
        way = short_way(rows_left(rows, taken), a, b)
    return taken


def ways_apart(rows, a, b):
    """Ways from a to b, taken away from the rows one after another."""
    told = []
    left = rows
    way = short_way(left, a, b)
    while way is not None:
        told.append(way)
        left = [row for row in left if row[0] not in way]
        way = short_way(left, a, b)
    return told


def ways(web, a, b):
    """As many ways from a to b as there can be, and a lot with b into which just as many ties lead."""
    need_web(web)
    need_two_places(web, a, b)
    taken = taken_most(web[1], a, b)
    # No way goes on into this lot: all ties into it are taken, and none out of it is.
    lot = places_beyond(web, come_to(rows_left(web[1], taken), a))
    return (ways_apart(rows_of(web, taken), a, b), lot)
