"""What is promised over the whole program: the functions agree with one another, whatever the names are."""

import random
import unittest

from rootshares.cheapest import cheapest
from rootshares.counted import all_trees, count, count_with, number_of, tree_at
from rootshares.errors import RootError
from rootshares.filled import just_filled, shrunk, within
from rootshares.gluing import parted, together
from rootshares.keeping import Keeper
from rootshares.many import cheapest_shares
from rootshares.mends import mended
from rootshares.prices import cost_of, reads_prices
from rootshares.reached import fewest, first_tree, reached
from rootshares.roots import lack, shares_from
from rootshares.shares import least, shares
from rootshares.tables import determinant, table
from rootshares.trees import is_tree
from rootshares.ways import ways
from rootshares.webs import is_web, with_tie
from rootshares.webtexts import read_trees, read_web, trees_text, web_text
from things import (ALONE, APART, TALL, WEB, chance_webs, doubled, into, lots_of, renamed, share_fault, some_costs,
                    some_webs, told_few, turned_names)


def small_webs():
    return some_webs() + [TALL, ALONE, APART] + chance_webs(130, 30, 5, 12)


def other_lots(places, lots):
    """Lots renamed, sorted."""
    return sorted([tuple(sorted([places[place] for place in lot])) for lot in lots])


def told_or_name(deed, *given):
    """What is told, or the name of the refusal."""
    try:
        return deed(*given)
    except RootError as error:
        return error.__class__.__name__


def cost_all(web, costs, trees):
    return cost_of(web, costs, tuple([tie for tree in trees for tie in tree]))


class Renamed(unittest.TestCase):
    def both(self):
        """Webs, the dicts of their other names, and the webs renamed."""
        for web in small_webs():
            places, ties = turned_names(web)
            yield web, places, ties, renamed(web, places, ties)

    def test_counts_and_lists(self):
        for web, places, ties, other in self.both():
            self.assertIs(is_web(other), True)
            for root in web[0]:
                self.assertEqual(least(other, places[root]) and least(other, places[root])[0],
                                 least(web, root) and least(web, root)[0])
                self.assertEqual(count(other, places[root]), count(web, root))
                self.assertEqual(reached(other, places[root]), sorted([places[place] for place in reached(web, root)]))
                told = told_or_name(all_trees, web, root)
                if told != "TooMany":
                    told = sorted([tuple(sorted([ties[tie] for tie in tree])) for tree in told])
                self.assertEqual(told_or_name(all_trees, other, places[root]), told)

    def test_lots(self):
        for web, places, ties, other in self.both():
            for root in web[0]:
                for many in range(4):
                    told = told_or_name(just_filled, web, root, many)
                    told = told if told == "TooFew" else other_lots(places, told)
                    self.assertEqual(told_or_name(just_filled, other, places[root], many), told)
            roots = (web[0][0], web[0][-1], web[0][0])
            for lot in lots_of(web):
                self.assertEqual(lack(other, tuple([places[root] for root in roots]), other_lots(places, [lot])[0]),
                                 lack(web, roots, lot))

    def test_ways(self):
        for web, places, ties, other in self.both():
            for a in web[0]:
                for b in web[0]:
                    way = fewest(web, a, b)
                    again = fewest(other, places[a], places[b])
                    self.assertEqual(again is None, way is None)
                    self.assertEqual(again and len(again), way and len(way))
                    if a != b:
                        self.assertEqual(len(ways(other, places[a], places[b])[0]), len(ways(web, a, b)[0]))

    def test_costs(self):
        chance = random.Random(131)
        for web, places, ties, other in self.both():
            costs = some_costs(chance, len(web[1]))
            each = {ties[row[0]]: cost for row, cost in zip(web[1], costs)}
            given = tuple([each[row[0]] for row in other[1]])
            for root in web[0]:
                if told_few(cheapest, web, root, costs) is not None:
                    self.assertIsNotNone(told_few(cheapest, other, places[root], given))
                    continue
                self.assertEqual(cost_of(other, given, cheapest(other, places[root], given)[0]),
                                 cost_of(web, costs, cheapest(web, root, costs)[0]))
                for many in (2, 3):
                    told = told_or_name(cheapest_shares, web, root, many, costs)
                    again = told_or_name(cheapest_shares, other, places[root], many, given)
                    if told == "TooFew":
                        self.assertEqual(again, told)
                    else:
                        self.assertEqual(cost_all(other, given, again[0]), cost_all(web, costs, told[0]))


class Doubled(unittest.TestCase):
    def test_the_least_count_and_the_table(self):
        for web in small_webs():
            twice = doubled(web)
            for root in web[0]:
                self.assertEqual(table(twice, root),
                                 tuple([tuple([2 * number for number in row]) for row in table(web, root)]))
                self.assertEqual(count(twice, root), count(web, root) * 2 ** (len(web[0]) - 1))
                if least(web, root) is not None:
                    self.assertEqual(least(twice, root)[0], 2 * least(web, root)[0])


class Agree(unittest.TestCase):
    def test_as_many_shares_as_the_least_count(self):
        for web in small_webs() + chance_webs(132, 12, 8, 40):
            for root in web[0]:
                found = least(web, root)
                if found is None:
                    continue
                for many in range(7):
                    roots = (root,) * many
                    enough = many <= found[0]
                    self.assertEqual(told_few(shares, web, root, many) is None, enough)
                    self.assertEqual(told_few(shares_from, web, roots) is None, enough)
                    self.assertEqual(mended(web, root, many) == ((), []), enough)
                    self.assertEqual(told_few(just_filled, web, root, many) is None, enough)
                    self.assertEqual(lack(web, roots, found[1]) > 0, not enough)
                    if enough:
                        self.assertEqual(share_fault(web, roots, shares(web, root, many)), "")
                        self.assertEqual(share_fault(web, roots, shares_from(web, roots)), "")
                if found[0] <= 6:
                    self.assertIn(found[1], just_filled(web, root, found[0]))

    def test_the_least_count_is_that_of_the_fewest_ways(self):
        for web in small_webs():
            for root in web[0]:
                if least(web, root) is not None:
                    many = [len(ways(web, root, place)[0]) for place in web[0] if place != root]
                    self.assertEqual(least(web, root)[0], min(many))

    def test_a_first_tree_just_where_one_is_counted(self):
        for web in small_webs() + chance_webs(133, 20, 8, 16):
            for root in web[0]:
                many = count(web, root)
                self.assertEqual(many, determinant(table(web, root)))
                self.assertEqual(told_few(first_tree, web, root) is None, many > 0)
                self.assertEqual(reached(web, root) == list(web[0]), many > 0)
                self.assertEqual(told_few(cheapest, web, root, (1,) * len(web[1])) is None, many > 0)
                if many > 0:
                    tree = first_tree(web, root)
                    self.assertEqual(tree_at(web, root, number_of(web, root, tree)), tree)

    def test_each_share_is_in_the_list_at_its_number(self):
        for web in small_webs():
            for root in web[0]:
                listed = told_or_name(all_trees, web, root)
                if listed == "TooMany" or not listed:
                    continue
                self.assertEqual(len(listed), count(web, root))
                found = least(web, root)
                for tree in shares(web, root, 2 if found is None else min(6, found[0])):
                    self.assertIs(is_tree(web, root, tree), True)
                    self.assertEqual(listed[number_of(web, root, tree)], tree)
                    self.assertEqual(count_with(web, root, tree, ()), 1)

    def test_the_cheapest_of_the_list(self):
        chance = random.Random(134)
        for web in small_webs():
            costs = some_costs(chance, len(web[1]))
            for root in web[0]:
                listed = told_or_name(all_trees, web, root)
                if listed != "TooMany" and listed:
                    tree, prices = cheapest(web, root, costs)
                    self.assertEqual(cost_of(web, costs, tree), min([cost_of(web, costs, one) for one in listed]))
                    read = [one for one in listed if reads_prices(web, root, costs, one, prices)]
                    self.assertIn(tree, read)
                    self.assertEqual(len(set([cost_of(web, costs, one) for one in read])), 1)

    def test_a_keeper_and_the_cheapest_shares(self):
        chance = random.Random(135)
        for web in small_webs():
            costs = some_costs(chance, len(web[1]))
            root = chance.choice(web[0])
            found = least(web, root)
            for many in (1, 3, 6):
                most = many if found is None else min(many, found[0])
                keeper = Keeper(web, root, many, costs)
                self.assertEqual(len(keeper.trees()), most)
                if most > 0:
                    self.assertEqual(keeper.cost(), cost_all(web, costs, cheapest_shares(web, root, most, costs)[0]))
                    for tree in keeper.trees():
                        self.assertEqual(tree_at(web, root, number_of(web, root, tree)), tree)

    def test_ties_put_as_mended(self):
        for web in small_webs():
            root = web[0][0]
            for many in (1, 2, 4):
                keeper = Keeper(web, root, many, (1,) * len(web[1]))
                whole = web
                for at, place in enumerate(mended(web, root, many)[0]):
                    self.assertLess(len(keeper.trees()), many)
                    tie = "zz" + "abcdefgh"[at // 8] + "abcdefgh"[at % 8]
                    keeper.put(tie, root, place, 1)
                    whole = with_tie(whole, tie, root, place)
                self.assertEqual(len(keeper.trees()), many)
                self.assertEqual(keeper.web(), whole)
                self.assertEqual(mended(whole, root, many), ((), []))

    def test_cheapest_shares_parted_and_together(self):
        chance = random.Random(136)
        tried = 0
        for web in small_webs() + [doubled(web) for web in some_webs()[3:30]]:
            root = web[0][0]
            found = least(web, root)
            if found is None or not 1 <= found[0] <= 6:
                continue
            trees = cheapest_shares(web, root, found[0], some_costs(chance, len(web[1])))[0]
            for lot in just_filled(web, root, found[0]):
                outer, inner = parted(web, root, lot, trees)
                self.assertEqual(together(web, root, lot, outer, inner, "m"), trees)
                self.assertEqual(least(shrunk(web, lot, "m"), root)[0], found[0])
                self.assertEqual(least(within(web, lot, "m"), "m")[0], found[0])
                self.assertEqual(into(web, lot), found[0])
                tried += 1
        self.assertGreater(tried, 50)

    def test_texts_of_what_is_told(self):
        for web in small_webs():
            self.assertEqual(read_web(web_text(web)), web)
            for root in web[0]:
                listed = told_or_name(all_trees, web, root)
                if listed != "TooMany":
                    self.assertEqual(read_trees(trees_text(listed)), listed)


if __name__ == "__main__":
    unittest.main()
