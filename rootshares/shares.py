"""The least count of ties into a lot, and so many trees of which no two have a tie in common."""

from rootshares.errors import TooFew
from rootshares.trees import spans
from rootshares.webs import leads_into, need_number, need_place, need_web

MOST_TREES = 6


def is_shares(web, root, thing):
    """Whether a thing is a list of trees from the root of which no two have a tie in common."""
    if not isinstance(thing, list) or not all([spans(web, root, tree) for tree in thing]):
        return False
    ties = sorted([tie for tree in thing for tie in tree])
    return all([ties[at - 1] != ties[at] for at in range(1, len(ties))])


def lots_among(places):
    """All lots of some sorted places."""
    lots = [()]
    for place in places:
        lots = lots + [lot + (place,) for lot in lots]
    return lots[1:]


def lots_without(web, root):
    """All lots of a web that have not the root."""
    return lots_among([place for place in web[0] if place != root])


def counts_into(rows, lots):
    """How many of the tie rows lead into each lot."""
    counts = {lot: 0 for lot in lots}
    for row in rows:
        for lot in lots:
            if leads_into(row, lot):
                counts[lot] += 1
    return counts


def need_of(roots, lot):
    """How many of the roots, each as often as it stands, are not in a lot."""
    return len([root for root in roots if root not in lot])


def spare_into(rows, lots, roots):
    """How many tie rows more than the roots need lead into each lot; below 0 where some lack."""
    counts = counts_into(rows, lots)
    return {lot: counts[lot] - need_of(roots, lot) for lot in lots}


def next_row(rows, found, spare):
    """A row that leads on from the places found and that no lot needs, and the lots into which it leads."""
    for row in rows:
        if row[1] in found and row[2] not in found:
            entered = [lot for lot in spare if leads_into(row, lot)]
            if all([spare[lot] > 0 for lot in entered]):
                return row, entered
    return None


def grown(places, rows, root, later):
    """The rows of a tree from a root that leave enough ties for trees from the later roots."""
    spare = spare_into(rows, lots_among(places), later)
    found = [root]
    tree = []
    while len(found) < len(places):
        # While each lot that is not reached has a tie more than the later roots need there is such a row.
        row, entered = next_row(rows, found, spare)
        found.append(row[2])
        tree.append(row)
        for lot in entered:
            spare[lot] -= 1
    return tree


def need_enough(web, roots):
    """Refuse a web in which some lot needs more ties for trees from the roots than lead into it."""
    spare = spare_into(web[1], lots_among(web[0]), roots)
    for lot in spare:
        if spare[lot] < 0:
            raise TooFew(lot)


def trees_from(web, roots):
    """A tree from each of the roots, in their order, no tie in two of them."""
    need_enough(web, roots)
    places, rows = web
    trees = []
    for at, root in enumerate(roots):
        tree = grown(places, rows, root, roots[at + 1:])
        rows = [row for row in rows if row not in tree]
        trees.append(tuple(sorted([row[0] for row in tree])))
    return trees


def least(web, root):
    """The least count of ties that lead into a lot without the root, and such a lot; None where there is no lot."""
    need_web(web)
    need_place(web, root)
    lots = lots_without(web, root)
    if len(lots) == 0:
        return None
    counts = counts_into(web[1], lots)
    return min([(counts[lot], lot) for lot in lots])


def shares(web, root, many):
    """So many trees from the root of which no two have a tie in common."""
    need_web(web)
    need_place(web, root)
    need_number(many, 0, MOST_TREES)
    return trees_from(web, (root,) * many)
