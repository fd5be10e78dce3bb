import itertools
import random
import unittest

from rootshares.errors import NoCosts, NoPlace, NoTie, NoTree, NoWeb
from rootshares.prices import cost_of, pays, reads_prices
from things import (ALONE, APART, COSTS, NO_COSTS, NO_NAMES, NO_WEBS, NO_WHOLES, ODD, TALL, WEB, Prickly, chance_webs,
                    holds, lots_of, lots_without, paying, refused, some_webs, trees_of)

# A tree with a ring of two places that pays together: into b and c, the root is a.
RING = (("a", "b", "c"), (("p", "a", "b"), ("q", "a", "c"), ("r", "b", "c"), ("s", "c", "b"), ("t", "c", "a")))
RING_COSTS = (6, 9, 1, 2, -50)
RING_TREE = ("p", "r")
RING_PRICES = ((("b",), 2), (("b", "c"), 4), (("c",), 1))


def made_up(chance, web, root, tree):
    """Prices of lots that the tree enters once, and costs that they show to be met."""
    entered = []
    for lot in lots_without(web, root):
        led = [row for row in web[1] if row[0] in tree and row[2] in lot and row[1] not in lot]
        if len(led) == 1:
            entered.append(lot)
    chosen = []
    for lot in chance.sample(entered, min(len(entered), 8)):
        places = set(lot)
        if all([not places & set(one) or places <= set(one) or set(one) <= places for one in chosen]):
            chosen.append(lot)
    prices = []
    for lot in sorted(chosen):
        price = chance.randint(1, 9)
        prices.append((lot, -price if len(lot) == 1 and chance.random() < 0.3 else price))
    costs = []
    for name, start, end in web[1]:
        more = 0 if name in tree else chance.choice([0, 0, 1, 5])
        costs.append(chance.randint(-90, 90) if end == root else paying(prices, start, end) + more)
    return tuple(costs), tuple(prices)


def made_up_cases(seed):
    chance = random.Random(seed)
    for web in [WEB, TALL] + chance_webs(seed, 40, 6, 12):
        for root in web[0]:
            trees = trees_of(web, root)
            if trees:
                tree = chance.choice(trees)
                yield (web, root) + made_up(chance, web, root, tree) + (tree,)


class CostOf(unittest.TestCase):
    def test_no_ties(self):
        self.assertEqual(cost_of(WEB, COSTS, ()), 0)
        self.assertEqual(cost_of(ALONE, (), ()), 0)
        self.assertEqual(cost_of(APART, (), ()), 0)

    def test_each_tie(self):
        for row, cost in zip(WEB[1], COSTS):
            self.assertEqual(cost_of(WEB, COSTS, (row[0],)), cost)

    def test_together(self):
        self.assertEqual(cost_of(WEB, COSTS, ("ab", "ac", "bd")), 10)
        self.assertEqual(cost_of(WEB, COSTS, ("bd", "ab", "ac")), 10)
        self.assertEqual(cost_of(WEB, COSTS, ("ac", "cd")), 10 ** 29 - 2)

    def test_alike_ones(self):
        self.assertEqual(cost_of(WEB, COSTS, ("ac", "ac", "db", "ac")), -5)
        self.assertEqual(cost_of(WEB, COSTS, ("cd",) * 40), 40 * 10 ** 29)

    def test_below_0_and_great_ones(self):
        great = 10 ** 30 - 1
        web = (("a", "b"), (("p", "a", "b"), ("q", "a", "b"), ("r", "b", "a")))
        self.assertEqual(cost_of(web, (great, -great, -1), ("p", "q", "r")), -1)
        self.assertEqual(cost_of(web, (great, -great, -1), ("q", "r", "q")), -2 * great - 1)

    def test_no_web(self):
        for thing in NO_WEBS:
            refused(self, NoWeb, cost_of, thing, (), ())
            refused(self, NoWeb, cost_of, thing, thing, thing)

    def test_no_costs(self):
        for at, thing in enumerate(NO_COSTS):
            with self.subTest(at=at):
                refused(self, NoCosts, cost_of, WEB, thing, ("ab",))
                # NoCosts goes ahead of NoTie.
                refused(self, NoCosts, cost_of, WEB, thing, ("b",))
                refused(self, NoCosts, cost_of, WEB, thing, thing)
                self.assertEqual(cost_of(WEB, COSTS, ("ab",)), 5)
        for thing in ODD + [(1,), []]:
            refused(self, NoCosts, cost_of, APART, thing, ())

    def test_no_tie(self):
        wrong = ODD + [
            "a", "ab", ["ab"], [], {"ab"}, {"ab": 1}, ("b",), ("ab", "b"), ("b", "ab"), ("ab", None), ("ab", Prickly()),
            ("ab", ["ac"]), (("ab", "a", "b"),), ("ab", 1), ("ab", ("ac",)), ("AB",)]
        for at, thing in enumerate(wrong):
            with self.subTest(at=at):
                refused(self, NoTie, cost_of, WEB, COSTS, thing)
                self.assertEqual(cost_of(WEB, COSTS, ("ab",)), 5)


class Pays(unittest.TestCase):
    def test_no_prices(self):
        for row in WEB[1]:
            self.assertEqual(pays(WEB, (), row[0]), 0)

    def test_lots_apart_and_one_in_another(self):
        prices = ((("b",), 2), (("b", "c"), 10), (("d",), 400))
        told = [pays(WEB, prices, row[0]) for row in WEB[1]]
        self.assertEqual(told, [12, 12, 10, 0, 400, 400, 0, 12])

    def test_below_0(self):
        prices = ((("b",), -2), (("b", "d"), 5), (("c",), -30))
        told = [pays(WEB, prices, row[0]) for row in WEB[1]]
        self.assertEqual(told, [3, 3, -30, -30, 0, 5, 0, -2])

    def test_lots_with_any_place(self):
        self.assertEqual(pays(WEB, ((("a",), 7), (("a", "d"), 20), (("a", "b", "c", "d"), 100)), "da"), 7)
        self.assertEqual(pays(WEB, ((("a",), 7), (("a", "d"), 20)), "cd"), 20)

    def test_lots_that_cross_or_are_alike(self):
        self.assertEqual(pays(WEB, ((("b", "c"), 1), (("c", "d"), 20), (("b", "c"), 300)), "ac"), 321)

    def test_great_ones(self):
        self.assertEqual(pays(WEB, ((("b",), 10 ** 30 - 1), (("b", "c"), 10 ** 30 - 1)), "ab"), 2 * 10 ** 30 - 2)

    def test_all_lots(self):
        for web in some_webs():
            prices = tuple([(lot, 2 ** at) for at, lot in enumerate(lots_of(web))])
            for name, start, end in web[1]:
                self.assertEqual(pays(web, prices, name), paying(prices, start, end))

    def test_no_web(self):
        for thing in NO_WEBS:
            refused(self, NoWeb, pays, thing, (), "ab")
            refused(self, NoWeb, pays, thing, (), thing)

    def test_no_tie(self):
        for at, thing in enumerate(NO_NAMES + ["b", "zz", ("ab",)]):
            with self.subTest(at=at):
                refused(self, NoTie, pays, WEB, (), thing)
                refused(self, NoTie, pays, WEB, ((("b",), 2),), thing)
                self.assertEqual(pays(WEB, ((("b",), 2),), "ab"), 2)


class ReadsPrices(unittest.TestCase):
    def read(self, prices):
        """Whether prices are read with the ring's tree."""
        told = reads_prices(RING, "a", RING_COSTS, RING_TREE, prices)
        self.assertIs(reads_prices(RING, "a", RING_COSTS, RING_TREE, RING_PRICES), True)
        return told

    def test_as_told(self):
        self.assertIs(self.read(RING_PRICES), True)
        self.assertIs(reads_prices(ALONE, "a", (), (), ()), True)
        two = (("a", "b"), (("p", "a", "b"), ("q", "a", "b")))
        self.assertIs(reads_prices(two, "a", (0, 0), ("q",), ()), True)
        self.assertIs(reads_prices(two, "a", (-3, 2), ("p",), ((("b",), -3),)), True)
        self.assertIs(reads_prices(two, "a", (3, 3), ("q",), ((("b",), 3),)), True)

    def test_ties_to_the_root_may_pay_more(self):
        self.assertIs(reads_prices(RING, "a", (6, 9, 1, 2, -(10 ** 29)), RING_TREE, RING_PRICES), True)
        self.assertIs(reads_prices(RING, "a", (6, 9, 1, 2, 10 ** 29), RING_TREE, RING_PRICES), True)

    def test_a_price_of_0(self):
        self.assertIs(reads_prices(RING, "a", (6, 9, 0, 2, 0), ("p", "r"), ((("b",), 2), (("b", "c"), 4))), True)
        self.assertIs(reads_prices(RING, "a", (6, 9, 0, 2, 0), ("p", "r"), RING_PRICES[:2] + ((("c",), 0),)), False)
        self.assertIs(reads_prices(RING, "a", (2, 9, 1, 2, 0), ("p", "r"), ((("b",), 2), (("c",), 1))), True)
        zero = ((("b",), 2), (("b", "c"), 0), (("c",), 1))
        self.assertIs(reads_prices(RING, "a", (2, 9, 1, 2, 0), ("p", "r"), zero), False)

    def test_below_0(self):
        # All ties are met by this one, but the lot of two places has a price below 0.
        below = ((("b",), 10), (("b", "c"), -4), (("c",), 1))
        self.assertIs(reads_prices(RING, "a", (6, 9, 1, 20, 0), ("p", "r"), below), False)
        single = ((("b",), -5), (("b", "c"), 4), (("c",), -3))
        self.assertIs(reads_prices(RING, "a", (-1, 9, -3, -5, 0), ("p", "r"), single), True)

    def test_a_lot_with_the_root(self):
        for row in [(("a",), 1), (("a", "b"), 1), (("a", "c"), 1), (("a", "b", "c"), 1), (("a",), -1)]:
            # Costs that would be met with it.
            prices = tuple(sorted(RING_PRICES + (row,)))
            costs = tuple([paying(prices, start, end) for name, start, end in RING[1]])
            for tree in trees_of(RING, "a"):
                self.assertIs(reads_prices(RING, "a", costs, tree, prices), False)

    def test_two_alike_lots(self):
        self.assertIs(self.read(((("b",), 1), (("b",), 1), (("b", "c"), 4), (("c",), 1))), False)
        self.assertIs(self.read(((("b",), -1), (("b",), 3), (("b", "c"), 4), (("c",), 1))), False)
        self.assertIs(self.read(((("b",), 2), (("b", "c"), 1), (("b", "c"), 3), (("c",), 1))), False)

    def test_two_that_cross(self):
        chain = (("a", "b", "c", "d"), (("p", "a", "c"), ("q", "c", "b"), ("r", "c", "d")))
        crossing = ((("b", "c"), 1), (("c", "d"), 1))
        for each in (crossing[:1], crossing[1:], crossing):
            costs = tuple([paying(each, start, end) for name, start, end in chain[1]])
            self.assertIs(reads_prices(chain, "a", costs, ("p", "q", "r"), each), len(each) == 1)

    def test_not_sorted(self):
        for order in itertools.permutations(RING_PRICES):
            self.assertIs(self.read(order), order == RING_PRICES)
        self.assertIs(self.read(((("b",), 2), (("c", "b"), 4), (("c",), 1))), False)

    def test_ties_that_pay_more_or_less(self):
        for at in range(4):
            for more in (-1, 1, -20, 20):
                costs = RING_COSTS[:at] + (RING_COSTS[at] + more,) + RING_COSTS[at + 1:]
                wanted = RING[1][at][0] not in RING_TREE and paying(RING_PRICES, *RING[1][at][1:]) <= costs[at]
                self.assertIs(reads_prices(RING, "a", costs, RING_TREE, RING_PRICES), wanted)

    def test_another_tree(self):
        self.assertIs(reads_prices(RING, "a", RING_COSTS, ("q", "s"), RING_PRICES), False)
        self.assertIs(reads_prices(RING, "a", RING_COSTS, ("p", "q"), RING_PRICES), False)

    def test_two_ties_of_the_tree_into_a_lot(self):
        web = (("a", "b", "c"), (("p", "a", "b"), ("q", "a", "c"), ("r", "b", "c"), ("s", "c", "b")))
        prices = ((("b",), 2), (("b", "c"), 4), (("c",), 1))
        self.assertIs(reads_prices(web, "a", (6, 5, 1, 2), ("p", "q"), prices), False)
        self.assertIs(reads_prices(web, "a", (6, 5, 1, 2), ("p", "r"), prices), True)
        self.assertIs(reads_prices(web, "a", (6, 5, 1, 2), ("q", "s"), prices), True)

    def test_no_prices_of_anything(self):
        wrong = ODD + [
            None, True, 0, "", "b", [], {}, list(RING_PRICES), [list(row) for row in RING_PRICES], dict(RING_PRICES),
            (None,), (True,), (1,), ("b",), ("bb",), ((),), ((("b",),),), ((("b",), 2, 3),), ((2, ("b",)),), (("b", 2),),
            ((["b"], 2),) + RING_PRICES[1:], (["b", 2],), ([("b",), 2],) + RING_PRICES[1:], ({("b",): 2},), RING_PRICES[0],
            (RING_PRICES,), RING_PRICES + (None,), RING_PRICES + ((),), (((), 1),) + RING_PRICES,
            RING_PRICES + ((("d",), 1),), RING_PRICES + ((("c", "d"), 1),), RING_PRICES[:2] + ((("c", "c"), 1),),
            RING_PRICES[:2] + ((("c",), True),), RING_PRICES[:2] + (("c", 1),), (Prickly(),), ((Prickly(), 2),)]
        for thing in NO_WHOLES:
            wrong.append(RING_PRICES[:2] + ((("c",), thing),))
            wrong.append((RING_PRICES[0], (("b", "c"), thing), RING_PRICES[2]))
        for thing in ODD + ["c", ["c"], {"c"}, ("d",), ("C",)]:
            wrong.append(RING_PRICES[:2] + ((thing, 1),))
        for at, thing in enumerate(wrong):
            with self.subTest(at=at):
                self.assertIs(self.read(thing), False)

    def test_where_no_price_is_one_of_no_prices(self):
        self.assertIs(self.read(()), False)
        self.assertIs(reads_prices(ALONE, "a", (), (), ((("a",), 1),)), False)
        self.assertIs(reads_prices(ALONE, "a", (), (), []), False)

    def test_all_small_prices(self):
        lots = [("b",), ("b", "c"), ("c",)]
        read = 0
        for costs in [RING_COSTS, (1, 1, 1, 1, 1), (2, 1, 0, -1, 0), (-1, 0, -1, 0, 5), (0, 0, 0, 0, 0), (2, 2, 1, 1, 0)]:
            for tree in trees_of(RING, "a"):
                total = sum([cost for row, cost in zip(RING[1], costs) if row[0] in tree])
                totals = [sum([cost for row, cost in zip(RING[1], costs) if row[0] in other])
                          for other in trees_of(RING, "a")]
                for many in range(4):
                    for chosen in itertools.combinations(lots, many):
                        for numbers in itertools.product((-1, 0, 1, 2, 4), repeat=many):
                            prices = tuple(zip(chosen, numbers))
                            told = reads_prices(RING, "a", costs, tree, prices)
                            self.assertIs(told, holds(RING, "a", costs, [tree], prices, ()))
                            if told:
                                read += 1
                                self.assertEqual((total, total), (min(totals), sum(numbers)))
        self.assertGreater(read, 10)

    def test_made_up_prices(self):
        many = 0
        for web, root, costs, prices, tree in made_up_cases(31):
            self.assertIs(reads_prices(web, root, costs, tree, prices), True)
            many += len(prices) > 3
            totals = [sum([cost for row, cost in zip(web[1], costs) if row[0] in other]) for other in trees_of(web, root)]
            self.assertEqual(sum([price for lot, price in prices]), min(totals))
        self.assertGreater(many, 20)

    def test_made_up_prices_with_one_fault(self):
        chance = random.Random(32)
        faults = 0
        for web, root, costs, prices, tree in made_up_cases(33):
            others = []
            for at, (lot, price) in enumerate(prices):
                others.append(prices[:at] + prices[at + 1:])
                others.append(prices[:at] + ((lot, price + chance.choice([-1, 1])),) + prices[at + 1:])
                others.append(prices[:at] + ((lot, price), (lot, price)) + prices[at + 1:])
            for lot in lots_without(web, root)[::3]:
                others.append(tuple(sorted(prices + ((lot, chance.choice([-1, 1, 2])),))))
            for other in others:
                wanted = holds(web, root, costs, [tree], other, ())
                self.assertIs(reads_prices(web, root, costs, tree, other), wanted)
                faults += not wanted
        self.assertGreater(faults, 200)

    def test_what_is_handed_in_stays(self):
        prices = [list(row) for row in RING_PRICES]
        reads_prices(RING, "a", RING_COSTS, RING_TREE, prices)
        self.assertEqual(prices, [[("b",), 2], [("b", "c"), 4], [("c",), 1]])

    def test_no_web(self):
        for thing in NO_WEBS:
            refused(self, NoWeb, reads_prices, thing, "a", (), (), ())
            refused(self, NoWeb, reads_prices, thing, thing, thing, thing, thing)

    def test_no_place(self):
        for thing in NO_NAMES + ["e", "ab"]:
            refused(self, NoPlace, reads_prices, WEB, thing, COSTS, ("ab", "ac", "bd"), ())
            refused(self, NoPlace, reads_prices, WEB, thing, thing, thing, thing)

    def test_no_costs(self):
        for at, thing in enumerate(NO_COSTS):
            with self.subTest(at=at):
                refused(self, NoCosts, reads_prices, WEB, "a", thing, ("ab", "ac", "bd"), ())
                # NoCosts goes ahead of NoTree.
                refused(self, NoCosts, reads_prices, WEB, "a", thing, thing, thing)
                self.assertIs(self.read(RING_PRICES), True)

    def test_no_tree(self):
        wrong = ODD + [
            (), ("p",), ("p", "q", "r"), ["p", "r"], ("r", "p"), ("p", "p"), ("r", "s"), ("p", "t"), ("p", "s"), ("p", "z"),
            "pr", {"p", "r"}, ("p", None), ("p", Prickly()), (("p", "r"),)]
        for at, thing in enumerate(wrong):
            with self.subTest(at=at):
                refused(self, NoTree, reads_prices, RING, "a", RING_COSTS, thing, RING_PRICES)
                refused(self, NoTree, reads_prices, RING, "a", RING_COSTS, thing, thing)
                self.assertIs(self.read(RING_PRICES), True)


if __name__ == "__main__":
    unittest.main()
