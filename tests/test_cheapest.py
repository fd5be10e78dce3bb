import random
import unittest

from rootshares.cheapest import cheapest
from rootshares.errors import NoCosts, NoPlace, NoWeb, TooFew
from rootshares.prices import reads_prices
from rootshares.reached import first_tree
from things import (ALONE, APART, COSTS, NO_COSTS, NO_NAMES, NO_WEBS, ODD, TALL, WEB, chance_web, chance_webs,
                    cost_together, holds, into, keep, lots_without, refused, renamed, some_costs, some_webs, told_few,
                    trees_of, turned_names)

GREAT = 10 ** 30 - 1
# Two rings, b c and d e, in a ring of both, c d and e b; each more costly than the one within.
RINGS = (
    ("a", "b", "c", "d", "e"),
    (("ab", "a", "b"), ("ad", "a", "d"), ("bc", "b", "c"), ("cb", "c", "b"), ("cd", "c", "d"), ("de", "d", "e"),
     ("ea", "e", "a"), ("eb", "e", "b"), ("ed", "e", "d")))
RINGS_COSTS = (100, 104, 1, 1, 10, 2, -900, 12, 2)


class Cheapest(unittest.TestCase):
    def told(self, web, root, costs):
        """What is told, asked point by point."""
        told = cheapest(web, root, costs)
        self.assertIsInstance(told, tuple)
        tree, prices = told
        self.assertIsInstance(prices, tuple)
        for row in prices:
            self.assertIsInstance(row, tuple)
            lot, price = row
            self.assertIn(lot, lots_without(web, root))
            self.assertIs(price.__class__, int)
        self.assertIs(holds(web, root, costs, [tree], prices, ()), True, (web, root, costs, told))
        self.assertIs(reads_prices(web, root, costs, tree, prices), True)
        self.assertEqual(sum([price for lot, price in prices]), cost_together(web, costs, [tree]))
        self.assertEqual(cheapest(web, root, costs), told)
        return told

    def tried(self, web, root, costs):
        """Held against all trees."""
        totals = [cost_together(web, costs, [tree]) for tree in trees_of(web, root)]
        lot = told_few(cheapest, web, root, costs)
        if not totals:
            self.assertIn(lot, lots_without(web, root))
            self.assertEqual(into(web, lot), 0)
            return
        self.assertIs(lot, None)
        tree, prices = self.told(web, root, costs)
        self.assertIn(tree, trees_of(web, root))
        self.assertEqual(cost_together(web, costs, [tree]), min(totals))

    def test_of_the_root_alone(self):
        self.assertEqual(cheapest(ALONE, "a", ()), ((), ()))

    def test_of_one_tie(self):
        web = (("a", "b"), (("p", "a", "b"),))
        for cost in (1, -1, 7, GREAT, -GREAT):
            self.assertEqual(cheapest(web, "a", (cost,)), (("p",), ((("b",), cost),)))
        self.assertEqual(cheapest(web, "a", (0,)), (("p",), ()))

    def test_of_several_ties_from_a_place_to_another(self):
        web = (("a", "b"), (("p", "a", "b"), ("q", "a", "b"), ("r", "a", "b"), ("s", "b", "a")))
        self.assertEqual(cheapest(web, "a", (5, 3, 4, -9)), (("q",), ((("b",), 3),)))
        self.assertEqual(cheapest(web, "a", (5, -3, -4, -9)), (("r",), ((("b",), -4),)))
        self.assertEqual(cheapest(web, "a", (0, 3, 4, 9)), (("p",), ()))
        self.assertEqual(cheapest(web, "b", (5, 3, 4, -9)), (("s",), ((("a",), -9),)))

    def test_a_ring_of_cheap_ties(self):
        web = (("a", "b", "c"), (("p", "a", "b"), ("q", "a", "c"), ("r", "b", "c"), ("s", "c", "b")))
        told = self.told(web, "a", (6, 9, 1, 2))
        self.assertEqual(told, (("p", "r"), ((("b",), 2), (("b", "c"), 4), (("c",), 1))))
        self.assertEqual(self.told(web, "a", (6, 5, 1, 3)), (("p", "r"), ((("b",), 3), (("b", "c"), 3), (("c",), 1))))
        self.assertEqual(self.told(web, "a", (9, 6, 1, 2))[0], ("q", "s"))
        self.assertEqual(self.told(web, "a", (9, 6, -5, -7))[0], ("q", "s"))

    def test_rings_within_rings(self):
        tree, prices = self.told(RINGS, "a", RINGS_COSTS)
        self.assertEqual(tree, ("ab", "bc", "cd", "de"))
        self.assertEqual(prices, (
            (("b",), 1), (("b", "c"), 11), (("b", "c", "d", "e"), 88), (("c",), 1), (("d",), 2), (("d", "e"), 8),
            (("e",), 2)))
        tree, prices = self.told(RINGS, "a", (100, 99, 1, 1, 10, 2, -900, 12, 2))
        self.assertEqual(tree, ("ab", "bc", "cd", "de"))
        tree, prices = self.told(RINGS, "a", (100, 97, 1, 1, 10, 2, -900, 12, 2))
        self.assertEqual(tree, ("ad", "bc", "de", "eb"))

    def test_rings_within_rings_of_eight_places(self):
        # Each place is in a ring with all ahead of it, that costs more than the rings within it.
        places = tuple("abcdefgh")
        rows = [("x" + place, "a", place) for place in places[1:]]
        costs = {"x" + place: 1000 + at for at, place in enumerate(places[1:])}
        for at in range(2, 8):
            rows += [("f" + places[at], places[at - 1], places[at]), ("g" + places[at], places[at], places[at - 1])]
            costs["f" + places[at]] = costs["g" + places[at]] = at * at
        rows = tuple(sorted(rows))
        tree, prices = self.told((places, rows), "a", tuple([costs[row[0]] for row in rows]))
        self.assertEqual(tree, ("fc", "fd", "fe", "ff", "fg", "fh", "xb"))
        self.assertEqual(max([len(lot) for lot, price in prices]), 7)
        self.assertGreater(len([lot for lot, price in prices if len(lot) > 1]), 5)

    def test_ties_to_the_root(self):
        web = (("a", "b", "c"), (("p", "a", "b"), ("q", "b", "c"), ("r", "c", "a"), ("s", "b", "a")))
        for cost in (0, 1, -1, GREAT, -GREAT):
            self.assertEqual(self.told(web, "a", (2, 3, cost, -cost)), (("p", "q"), ((("b",), 2), (("c",), 3))))

    def test_costs_below_0_and_0(self):
        self.assertEqual(self.told(WEB, "a", (0,) * 8)[1], ())
        tree, prices = self.told(WEB, "a", (-5,) * 8)
        self.assertEqual(prices, ((("b",), -5), (("c",), -5), (("d",), -5)))
        ring = (("a", "b", "c"), (("p", "a", "b"), ("q", "b", "c"), ("r", "c", "b")))
        self.assertEqual(self.told(ring, "a", (0, -4, -6)), (("p", "q"), ((("b",), -6), (("b", "c"), 6), (("c",), -4))))

    def test_great_costs(self):
        web = (("a", "b", "c"), (("p", "a", "b"), ("q", "a", "c"), ("r", "b", "c"), ("s", "c", "b")))
        told = self.told(web, "a", (GREAT, GREAT, -GREAT, -GREAT))
        self.assertEqual(told[1], ((("b",), -GREAT), (("b", "c"), 2 * GREAT), (("c",), -GREAT)))
        self.assertEqual(self.told(web, "a", (GREAT, GREAT - 1, -GREAT, 1 - GREAT))[0], ("p", "r"))
        self.assertEqual(self.told(web, "a", (GREAT, GREAT - 2, -GREAT, 1 - GREAT))[0], ("q", "s"))

    def test_all_trees_of_small_webs(self):
        chance = random.Random(40)
        for web in some_webs() + [TALL, RINGS] + chance_webs(41, 120, 6, 12):
            for root in web[0]:
                for step in range(2):
                    self.tried(web, root, some_costs(chance, len(web[1])))

    def test_eight_places_and_forty_ties(self):
        chance = random.Random(42)
        trees = 0
        for step in range(40):
            web = chance_web(chance, 8, 40)
            costs = some_costs(chance, 40)
            for root in web[0]:
                if told_few(first_tree, web, root) is None:
                    trees += 1
                    self.told(web, root, costs)
                else:
                    lot = told_few(cheapest, web, root, costs)
                    self.assertIn(lot, lots_without(web, root))
                    self.assertEqual(into(web, lot), 0)
        self.assertGreater(trees, 100)

    def test_too_few(self):
        self.assertEqual(told_few(cheapest, APART, "a", ()), ("b",))
        self.assertEqual(told_few(cheapest, APART, "b", ()), ("a",))
        chain = (("a", "b", "c", "d"), (("p", "a", "b"), ("q", "c", "d"), ("r", "d", "c"), ("s", "d", "b")))
        self.assertEqual(told_few(cheapest, chain, "a", (1, 2, 3, 4)), ("c", "d"))
        with self.assertRaises(TooFew) as caught:
            cheapest(chain, "b", (1, 2, 3, -4))
        lot = caught.exception.lot
        self.assertIsInstance(lot, tuple)
        self.assertIn(lot, [("a",), ("c", "d"), ("a", "c", "d")])

    def test_so_many_times_as_great_and_so_much_more(self):
        chance = random.Random(43)
        for web in [WEB, TALL, RINGS] + chance_webs(44, 40, 8, 40):
            root = web[0][0]
            if told_few(first_tree, web, root) is not None:
                continue
            costs = some_costs(chance, len(web[1]))
            total = cost_together(web, costs, [self.told(web, root, costs)[0]])
            for times in (2, 7):
                greater = tuple([cost * times for cost in costs])
                self.assertEqual(cost_together(web, greater, [self.told(web, root, greater)[0]]), total * times)
            for more in (1, -3, 10 ** 20):
                raised = tuple([cost + more for cost in costs])
                self.assertEqual(cost_together(web, raised, [self.told(web, root, raised)[0]]),
                                 total + more * (len(web[0]) - 1))

    def test_renamed(self):
        chance = random.Random(45)
        for web in some_webs() + [TALL, RINGS]:
            places, ties = turned_names(web)
            costs = dict(zip([row[0] for row in web[1]], some_costs(chance, len(web[1]))))
            other = renamed(web, places, ties)
            others = {ties[tie]: cost for tie, cost in costs.items()}
            for root in web[0]:
                if told_few(cheapest, web, root, tuple(costs.values())) is not None:
                    self.assertIsNotNone(told_few(first_tree, other, places[root]))
                    continue
                given = tuple([others[row[0]] for row in other[1]])
                self.assertEqual(
                    cost_together(other, given, [cheapest(other, places[root], given)[0]]),
                    cost_together(web, tuple(costs.values()), [cheapest(web, root, tuple(costs.values()))[0]]))

    def test_what_is_handed_in_stays(self):
        before = keep((RINGS, RINGS_COSTS))
        told = cheapest(RINGS, "a", RINGS_COSTS)
        self.assertEqual(keep((RINGS, RINGS_COSTS)), before)
        cheapest(RINGS, "b", RINGS_COSTS)
        self.assertEqual(cheapest(RINGS, "a", RINGS_COSTS), told)

    def test_no_web(self):
        for thing in NO_WEBS:
            refused(self, NoWeb, cheapest, thing, "a", ())
            refused(self, NoWeb, cheapest, thing, thing, thing)

    def test_no_place(self):
        for thing in NO_NAMES + ["e", "ab", ("a",)]:
            refused(self, NoPlace, cheapest, WEB, thing, COSTS)
            refused(self, NoPlace, cheapest, WEB, thing, thing)
            # Ahead of TooFew.
            refused(self, NoPlace, cheapest, (("b", "c"), ()), thing, ())

    def test_no_costs(self):
        before = cheapest(WEB, "a", COSTS)
        for at, thing in enumerate(NO_COSTS):
            with self.subTest(at=at):
                refused(self, NoCosts, cheapest, WEB, "a", thing)
                self.assertEqual(cheapest(WEB, "a", COSTS), before)
        for thing in ODD + [(1,), []]:
            # NoCosts goes ahead of TooFew.
            refused(self, NoCosts, cheapest, APART, "a", thing)
            refused(self, NoCosts, cheapest, ALONE, "a", thing)


if __name__ == "__main__":
    unittest.main()
