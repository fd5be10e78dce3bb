"""What ties cost and pay, and whether prices show that a tree is the cheapest."""

from rootshares.errors import NoCosts
from rootshares.trees import need_tree
from rootshares.webs import is_lot, is_rising, is_whole, leads_into, need_place, need_tie, need_ties, need_web, rows_of


def need_costs(web, thing):
    """Refuse what is no tuple of as many whole numbers as the web has ties."""
    if not isinstance(thing, tuple) or len(thing) != len(web[1]):
        raise NoCosts("this is no tuple of as many costs as there are ties")
    if not all([is_whole(cost) for cost in thing]):
        raise NoCosts("one of these is no whole number")


def paid(prices, row):
    """The prices of the lots into which a tie leads, added."""
    return sum([price for lot, price in prices if leads_into(row, lot)])


def is_price_row(web, root, thing):
    """Whether a thing is a pair of a lot without the root and a price that it may have."""
    if not isinstance(thing, tuple) or len(thing) != 2:
        return False
    lot, price = thing
    if not is_lot(web, lot) or root in lot or not is_whole(price):
        return False
    return price > 0 if len(lot) > 1 else price != 0


def is_apart_or_within(one, other):
    """Whether two lots have no place in common, or the one lies in the other."""
    both = [place for place in one if place in other]
    return len(both) in (0, len(one), len(other))


def is_prices(web, root, thing):
    """Whether a thing is a sorted tuple of prices of unlike lots without the root, of which no two cross."""
    if not isinstance(thing, tuple) or not all([is_price_row(web, root, row) for row in thing]):
        return False
    lots = [lot for lot, price in thing]
    return is_rising(lots) and all([is_apart_or_within(one, other) for one in lots for other in lots])


def is_met(web, root, costs, ties, prices, rents):
    """Whether no tie pays, less its rent, more than it costs, but to the root, and some ties just what they cost."""
    for row, cost in zip(web[1], costs):
        paying = paid(prices, row) - rents.get(row[0], 0)
        if row[0] in ties and paying != cost:
            return False
        if row[2] != root and paying > cost:
            return False
    return True


def is_entered(web, ties, prices, many):
    """Whether just so many of some ties lead into each lot of two places or more that has a price."""
    rows = rows_of(web, ties)
    counts = [len([row for row in rows if leads_into(row, lot)]) for lot, price in prices if len(lot) > 1]
    return all([count == many for count in counts])


def cost_of(web, costs, ties):
    """What ties cost together, each as often as it stands."""
    need_web(web)
    need_costs(web, costs)
    need_ties(web, ties)
    each = {row[0]: cost for row, cost in zip(web[1], costs)}
    return sum([each[tie] for tie in ties])


def pays(web, prices, tie):
    """The prices of the lots into which a tie of the web leads, added."""
    need_web(web)
    need_tie(web, tie)
    return paid(prices, rows_of(web, [tie])[0])


def reads_prices(web, root, costs, tree, prices):
    """Whether prices show that no tree costs less than this one."""
    need_web(web)
    need_place(web, root)
    need_costs(web, costs)
    need_tree(web, root, tree)
    if not is_prices(web, root, prices):
        return False
    return is_met(web, root, costs, tree, prices, {}) and is_entered(web, tree, prices, 1)
