"""Keepers: the cheapest shares of a web whose ties come and go."""

from rootshares.many import cheapest_shares
from rootshares.prices import cost_of, need_costs
from rootshares.shares import MOST_TREES, least
from rootshares.webs import need_number, need_place, need_web, with_tie, without


def most_shares(web, root, many):
    """How many shares there are, no more than a number."""
    found = least(web, root)
    return many if found is None else min(many, found[0])


def cost_of_all(web, costs, trees):
    """What trees cost together."""
    return cost_of(web, costs, tuple([tie for tree in trees for tie in tree]))


def best_trees(web, root, many, costs, trees):
    """As many shares as there are, no more than a number, as cheap as can be: those at hand where they are so."""
    most = most_shares(web, root, many)
    if most == 0:
        return ()
    best = tuple(cheapest_shares(web, root, most, costs)[0])
    if len(trees) == most and cost_of_all(web, costs, trees) == cost_of_all(web, costs, best):
        return trees
    return best


def costs_by_tie(web, costs):
    """What each tie costs."""
    return {row[0]: cost for row, cost in zip(web[1], costs)}


def costs_in_order(web, each):
    """The costs of a web's ties, in their order."""
    return tuple([each[row[0]] for row in web[1]])


def numbers_by_tie(trees):
    """The number of the tree that has it, for each tie of some trees."""
    return {tie: number for number, tree in enumerate(trees) for tie in tree}


def changes(before, now):
    """The sorted rows of the ties of which the number is another one in the trees that are now."""
    old = numbers_by_tie(before)
    new = numbers_by_tie(now)
    ties = sorted(set(list(old) + list(new)))
    return [(tie, old.get(tie), new.get(tie)) for tie in ties if old.get(tie) != new.get(tie)]


class Keeper:
    """As many shares of a web as there are, no more than a number, as cheap as can be, while ties come and go."""

    def __init__(self, web, root, many, costs):
        need_web(web)
        need_place(web, root)
        need_number(many, 1, MOST_TREES)
        need_costs(web, costs)
        self.root = root
        self.most = many
        # Tuples throughout, so that what is kept to be undone can't change.
        self.held = (web, costs, best_trees(web, root, many, costs, ()))
        self.earlier = []

    def web(self):
        """The web as it is now."""
        return self.held[0]

    def costs(self):
        """The costs of the web's ties, as they are now."""
        return self.held[1]

    def trees(self):
        """The trees as they are now."""
        return list(self.held[2])

    def cost(self):
        """What all trees cost together."""
        return cost_of_all(self.web(), self.costs(), self.trees())

    def renew(self, web, costs, trees):
        """Hold another web and its costs, with the trees at hand or better ones, and tell what changed."""
        self.earlier.append(self.held)
        self.held = (web, costs, best_trees(web, self.root, self.most, costs, trees))
        return changes(self.earlier[-1][2], self.held[2])

    def put(self, tie, a, b, cost):
        """Put a tie from a to b at a cost, and tell what changed."""
        old, costs, trees = self.held
        web = with_tie(old, tie, a, b)
        each = costs_by_tie(old, costs)
        each[tie] = cost
        costs = costs_in_order(web, each)
        need_costs(web, costs)
        return self.renew(web, costs, trees)

    def take(self, tie):
        """Take a tie away, and tell what changed."""
        old, costs, trees = self.held
        web = without(old, (tie,))
        costs = costs_in_order(web, costs_by_tie(old, costs))
        return self.renew(web, costs, tuple([tree for tree in trees if tie not in tree]))

    def undo(self):
        """Take back the last put or take that is not undone yet, and tell what changed; None where there is none."""
        if len(self.earlier) == 0:
            return None
        before = self.held[2]
        self.held = self.earlier.pop()
        return changes(before, self.held[2])
