"""The cheapest tree, with prices that show that none is cheaper."""

from rootshares.errors import TooFew
from rootshares.prices import need_costs
from rootshares.reached import places_beyond
from rootshares.webs import come_to, leads_into, need_place, need_web


def raise_price(prices, left, rows, lot):
    """Give a lot a price such that a tie into it is met, and take it from what is left of the costs."""
    entering = [row[0] for row in rows if leads_into(row, lot)]
    prices[lot] = min([left[name] for name in entering])
    for name in entering:
        left[name] -= prices[lot]


def met_rows(rows, left):
    """The rows of ties of whose cost nothing is left."""
    return [row for row in rows if left[row[0]] == 0]


def unmet_lot(places, root, met):
    """A lot without the root into which no met tie leads, and none such lies in it; None where all are reached."""
    turned = [(name, end, start) for name, start, end in met]
    lots = [tuple(sorted(come_to(turned, place))) for place in places]
    return min([lot for lot in lots if root not in lot], key=len, default=None)


def raised_prices(places, root, rows, left):
    """The price of each lot, raised until all places are reached along ties that are met."""
    prices = {}
    # Each place first: then nothing is left below 0, and each greater lot's price is above 0.
    for place in places:
        if place != root:
            raise_price(prices, left, rows, (place,))
    lot = unmet_lot(places, root, met_rows(rows, left))
    while lot is not None:
        raise_price(prices, left, rows, lot)
        lot = unmet_lot(places, root, met_rows(rows, left))
    return prices


def leads_anew(row, found, lots):
    """Whether a tie leads on from the places found, and into no lot that has one of them already."""
    entered = [lot for lot in lots if leads_into(row, lot)]
    return row[1] in found and all([place not in found for lot in entered for place in lot])


def tree_along(met, root, places, lots):
    """The rows of a tree along ties that are met, of which just one leads into each lot."""
    found = [root]
    tree = []
    while len(found) < len(places):
        # Within each lot all its places can be come to from each other along met ties: so there is such a row,
        # and it leads to a place that was not found, as each place but the root is a lot by itself, too.
        row = [one for one in met if leads_anew(one, found, lots)][0]
        found.append(row[2])
        tree.append(row)
    return tree


def cheapest(web, root, costs):
    """The cheapest tree from the root, and prices that show it."""
    need_web(web)
    need_place(web, root)
    need_costs(web, costs)
    places = web[0]
    beyond = places_beyond(web, come_to(web[1], root))
    if len(beyond) > 0:
        raise TooFew(beyond)
    rows = [row for row in web[1] if row[2] != root]
    left = {row[0]: cost for row, cost in zip(web[1], costs)}
    prices = raised_prices(places, root, rows, left)
    tree = tree_along(met_rows(rows, left), root, places, list(prices))
    told = sorted([(lot, prices[lot]) for lot in prices if prices[lot] != 0])
    return (tuple(sorted([row[0] for row in tree])), tuple(told))
