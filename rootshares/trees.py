"""Trees of a web from a root, and what is told of them."""

from rootshares.errors import NoTie, NoTree
from rootshares.webs import come_to, is_among, is_sorted_names, need_place, need_tie, need_web, rows_of


def spans(web, root, thing):
    """Whether a thing is a tree of a web from a place of it."""
    if not is_sorted_names(thing):
        return False
    rows = rows_of(web, thing)
    if len(rows) != len(thing):
        return False
    others = [place for place in web[0] if place != root]
    if sorted([row[2] for row in rows]) != others:
        return False
    return len(come_to(rows, root)) == len(web[0])


def need_tree(web, root, thing):
    """Refuse what is no tree of the web from the root."""
    if not spans(web, root, thing):
        raise NoTree("this is no tree of the web from the root")


def row_to(rows, place):
    """The first of the rows that leads to a place."""
    return [row for row in rows if row[2] == place][0]


def way_along(rows, root, place):
    """The way from a root to a place along rows, of which one leads to each place on it."""
    way = []
    here = place
    while here != root:
        name, start, end = row_to(rows, here)
        way.append(name)
        here = start
    return tuple(way[::-1])


def is_tree(web, root, thing):
    """Whether a thing is a tree of the web from the root."""
    need_web(web)
    need_place(web, root)
    return spans(web, root, thing)


def way_in(web, root, tree, place):
    """The way in a tree from its root to a place."""
    need_web(web)
    need_place(web, root)
    need_place(web, place)
    need_tree(web, root, tree)
    return way_along(rows_of(web, tree), root, place)


def below(web, root, tree, tie):
    """The lot of the places to which the ways in a tree go over a tie of it."""
    need_web(web)
    need_place(web, root)
    need_tree(web, root, tree)
    if not is_among(tie, tree):
        raise NoTie("this is no tie of the tree")
    name, start, end = rows_of(web, [tie])[0]
    return tuple(sorted(come_to(rows_of(web, tree), end)))


def exchanged(web, root, tree, tie):
    """The tree that has a tie instead of the one that leads to the same place, or None."""
    need_web(web)
    need_place(web, root)
    need_tree(web, root, tree)
    need_tie(web, tie)
    if tie in tree:
        return tree
    name, start, end = rows_of(web, [tie])[0]
    rows = rows_of(web, tree)
    # A tie from a place below the one that goes would close a ring.
    if end == root or start in come_to(rows, end):
        return None
    old = row_to(rows, end)[0]
    return tuple(sorted([kept for kept in tree if kept != old] + [name]))
