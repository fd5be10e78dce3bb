"""Ties taken for so many trees together, each by exchanges, and whether prices and rents show that none cost less."""

from rootshares.prices import is_entered, is_met, is_prices, need_costs
from rootshares.shares import MOST_TREES, is_shares, lots_among
from rootshares.webs import is_among, is_rising, is_whole, need_place, need_web


def rows_within(rows, lot):
    """The rows of ties of which both ends are in a lot."""
    return [row for row in rows if row[1] in lot and row[2] in lot]


def full_lots(places, rows, many):
    """The lots within which lie as many of the rows as so many trees can have there."""
    # So many trees have together at most so many ties within a lot for each place of it but one.
    return [lot for lot in lots_among(places) if len(rows_within(rows, lot)) == many * (len(lot) - 1)]


def rivals_within(full, taken, row):
    """The names of the taken ties of which one has to go for a tie, as a full lot has no room; None where all have."""
    # The least full lot with both ends of a tie lies in all others.
    lot = min([one for one in full if row[1] in one and row[2] in one], key=len, default=None)
    return None if lot is None else [one[0] for one in rows_within(taken, lot)]


def rivals_at(taken, row, many):
    """The names of the taken ties that lead where a tie leads to, if there are so many; else None."""
    names = [one[0] for one in taken if one[2] == row[2]]
    return names if len(names) == many else None


def exchanges_of(row, others, at, within, costs):
    """What can be taken behind a tie, each with the one that goes for it and with what both cost."""
    if at[row[0]] is None:
        return []
    told = []
    for other in others:
        going = [name for name in at[row[0]] if within[other] is not None and name in within[other]]
        told += [(costs[other] - costs[name], (name, other)) for name in going]
    return told


def cheapest_exchanges(places, taken, others, costs, many):
    """The ties to be taken and to go so that one tie more is taken, as cheaply and in as few steps as can be."""
    full = full_lots(places, taken, many)
    within = {row[0]: rivals_within(full, taken, row) for row in others}
    at = {row[0]: rivals_at(taken, row, many) for row in others}
    steps = {row[0]: exchanges_of(row, list(within), at, within, costs) for row in others}
    best = {name: (costs[name], 1, (name,)) for name in within if within[name] is None}
    changed = list(best)
    while len(changed) > 0:
        name = changed.pop(0)
        cost, length, ties = best[name]
        for more, (going, other) in steps[name]:
            # Of those that cost as much the shortest: in a longer one an exchange may take the room of another.
            if other not in best or (cost + more, length + 2) < best[other][:2]:
                best[other] = (cost + more, length + 2, ties + (going, other))
                changed.append(other)
    return min([best[name] for name in best if at[name] is None])[2]


def cheapest_ties(places, root, rows, costs, many):
    """The rows of the ties of so many trees that cost together as little as can be."""
    rows = [row for row in rows if row[2] != root]
    taken = []
    while len(taken) < many * (len(places) - 1):
        others = [row for row in rows if row not in taken]
        changed = cheapest_exchanges(places, taken, others, costs, many)
        # Each tie of the exchanges is either taken now or goes.
        taken = [row for row in rows if (row in taken) != (row[0] in changed)]
    return taken


def is_rents(ties, thing):
    """Whether a thing is a sorted tuple of pairs of unlike ones of some ties and whole numbers above 0."""
    if not isinstance(thing, tuple):
        return False
    for row in thing:
        if not isinstance(row, tuple) or len(row) != 2:
            return False
        if not is_among(row[0], ties) or not is_whole(row[1]) or row[1] <= 0:
            return False
    return is_rising([row[0] for row in thing])


def reads_shares(web, root, costs, trees, prices, rents):
    """Whether trees are shares, and prices and rents show that no so many cost less."""
    need_web(web)
    need_place(web, root)
    need_costs(web, costs)
    if not is_shares(web, root, trees) or not 1 <= len(trees) <= MOST_TREES:
        return False
    ties = [tie for tree in trees for tie in tree]
    if not is_prices(web, root, prices) or not is_rents(ties, rents):
        return False
    each = {tie: rent for tie, rent in rents}
    return is_met(web, root, costs, ties, prices, each) and is_entered(web, ties, prices, len(trees))
