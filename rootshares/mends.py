"""The fewest ties that are to be put so that there are so many shares."""

from rootshares.shares import MOST_TREES, counts_into, lots_without
from rootshares.webs import need_number, need_place, need_web


def put_into(put, lot):
    """How many ties are put to the places of a lot."""
    return sum([put[place] for place in lot])


def fewest_put(places, short, many):
    """How many ties from the root are to be put to each place so that no lot is short of any."""
    # So many to each place are enough for each lot; then each place gives back what no lot needs.
    put = {place: many for place in places}
    for place in places:
        needed = [short[lot] - put_into(put, lot) + put[place] for lot in short if place in lot]
        put[place] = max([0] + needed)
    return put


def greatest(lots):
    """The lots that lie in no other one of them."""
    told = []
    for lot in lots:
        wider = [other for other in lots if other != lot and all([place in other for place in lot])]
        if len(wider) == 0:
            told.append(lot)
    return told


def mended(web, root, many):
    """The places to which ties from the root are to be put, and lots that show that fewer are not enough."""
    need_web(web)
    need_place(web, root)
    need_number(many, 0, MOST_TREES)
    lots = lots_without(web, root)
    counts = counts_into(web[1], lots)
    short = {lot: many - counts[lot] for lot in lots}
    put = fewest_put([place for place in web[0] if place != root], short, many)
    # Of two lots that have a place in common and just what they need, both together have that, too:
    # so the greatest of these are apart.
    just = [lot for lot in lots if put_into(put, lot) == short[lot] > 0]
    return (tuple([place for place in put for step in range(put[place])]), greatest(just))
