"""The cheapest so many trees, with prices and rents that show that no so many cost less."""

from rootshares.exchanges import cheapest_ties, full_lots, rivals_within
from rootshares.mends import greatest
from rootshares.prices import need_costs, paid
from rootshares.shares import MOST_TREES, need_enough, trees_from
from rootshares.webs import need_number, need_place, need_web


def bounds_between(places, taken, others, costs, many):
    """Triples (one, other, more): the part of the one tie's cost is at most the other's and so much more."""
    # So parted, the taken ties are by their parts the cheapest for which full lots have room,
    # and by what their costs are beside the parts the cheapest to each place.
    full = full_lots(places, taken, many)
    told = []
    for row in others:
        told += [(name, row[0], 0) for name in rivals_within(full, taken, row)]
        at = [one[0] for one in taken if one[2] == row[2]]
        told += [(row[0], name, costs[row[0]] - costs[name]) for name in at]
    return told


def parts_of(names, bounds):
    """A part of each tie's cost, such that all bounds are kept."""
    parts = {name: 0 for name in names}
    changed = True
    while changed:
        changed = False
        for one, other, more in bounds:
            if parts[one] > parts[other] + more:
                parts[one] = parts[other] + more
                changed = True
    return parts


def prices_by_parts(places, root, taken, costs, parts, many):
    """The price of each lot without the root, of what the taken ties cost in their parts and beside them."""
    levels = sorted({parts[row[0]] for row in taken})
    prices = {}
    for place in places:
        if place != root:
            beside = [costs[row[0]] - parts[row[0]] for row in taken if row[2] == place]
            prices[(place,)] = max(beside) + levels[0]
    for at in range(1, len(levels)):
        # With more ties full lots only grow together: so no two of them cross, at whatever levels.
        lower = [row for row in taken if parts[row[0]] < levels[at]]
        for lot in greatest(full_lots(places, lower, many)):
            # Into a full lot that has the root no taken tie leads.
            if root not in lot:
                prices[lot] = prices.get(lot, 0) + levels[at] - levels[at - 1]
    return prices


def shown(web, root, taken, costs, many):
    """Prices and rents that show that no other ties of so many trees cost less than those taken."""
    places = web[0]
    others = [row for row in web[1] if row[2] != root and row not in taken]
    bounds = bounds_between(places, taken, others, costs, many)
    parts = parts_of(list(costs), bounds)
    prices = prices_by_parts(places, root, taken, costs, parts, many)
    told = tuple(sorted([(lot, prices[lot]) for lot in prices if prices[lot] != 0]))
    rents = [(row[0], paid(told, row) - costs[row[0]]) for row in taken]
    return told, tuple([(tie, rent) for tie, rent in rents if rent > 0])


def cheapest_shares(web, root, many, costs):
    """So many trees from the root that cost together as little as can be, and prices and rents that show it."""
    need_web(web)
    need_place(web, root)
    need_number(many, 1, MOST_TREES)
    need_costs(web, costs)
    roots = (root,) * many
    need_enough(web, roots)
    each = {row[0]: cost for row, cost in zip(web[1], costs)}
    taken = cheapest_ties(web[0], root, web[1], each, many)
    prices, rents = shown(web, root, taken, each, many)
    return (trees_from((web[0], tuple(taken)), roots), prices, rents)
