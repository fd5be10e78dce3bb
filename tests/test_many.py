import random
import unittest

from rootshares.cheapest import cheapest
from rootshares.errors import NoCosts, NoNumber, NoPlace, NoWeb
from rootshares.exchanges import reads_shares
from rootshares.many import cheapest_shares
from rootshares.shares import least
from things import (ALONE, APART, COSTS, NO_COSTS, NO_NAMES, NO_WEBS, NO_WHOLES, ODD, TALL, WEB, chance_web, chance_webs,
                    cheapest_sets, cost_together, doubled, holds, into, keep, lots_without, refused, renamed,
                    share_fault, some_costs, some_webs, told_few, trees_of, turned_names)

NO_NUMBERS = NO_WHOLES + [0, -1, -2, 7, 8, 40, -(10 ** 28), 10 ** 28]
GREAT = 10 ** 30 - 1


def dearer_from(web, root, costs):
    """Costs that are greater for the ties from the root, so that lots of several places get a price."""
    return tuple([cost + 25 * (row[1] == root) for row, cost in zip(web[1], costs)])


class CheapestShares(unittest.TestCase):
    def told(self, web, root, many, costs):
        """What is told, asked point by point."""
        told = cheapest_shares(web, root, many, costs)
        self.assertIsInstance(told, tuple)
        trees, prices, rents = told
        self.assertEqual(share_fault(web, [root] * many, trees), "")
        for row in prices:
            self.assertIsInstance(row, tuple)
            self.assertIn(row[0], lots_without(web, root))
        for row in rents:
            self.assertIsInstance(row, tuple)
        for one, number in prices + rents:
            self.assertIs(number.__class__, int)
        self.assertIs(holds(web, root, costs, trees, prices, rents), True, (web, root, many, costs, told))
        self.assertIs(reads_shares(web, root, costs, trees, prices, rents), True)
        total = many * sum([price for lot, price in prices]) - sum([rent for tie, rent in rents])
        self.assertEqual(cost_together(web, costs, trees), total)
        self.assertEqual(cheapest_shares(web, root, many, costs), told)
        return told

    def few(self, web, root, many, costs):
        """Ask that there are not so many, and that the lot shows it."""
        lot = told_few(cheapest_shares, web, root, many, costs)
        self.assertIn(lot, lots_without(web, root))
        self.assertLess(into(web, lot), many)

    def test_of_the_root_alone(self):
        for many in range(1, 7):
            self.assertEqual(cheapest_shares(ALONE, "a", many, ()), ([()] * many, (), ()))

    def test_of_two_places(self):
        web = (("a", "b"), tuple([(name, "a", "b") for name in "pqrstuv"]) + (("w", "b", "a"),))
        costs = (9, 2, -4, 2, 0, 30, 31, -100)
        order = ["r", "t", "q", "s", "p", "u", "v"]
        for many in range(1, 7):
            trees, prices, rents = self.told(web, "a", many, costs)
            self.assertEqual(cost_together(web, costs, trees), sum([-4, 0, 2, 2, 9, 30][:many]))
            if many != 3:
                self.assertEqual(sorted(trees), sorted([(name,) for name in order[:many]]))
        self.assertEqual(self.told(web, "b", 1, costs), ([("w",)], ((("a",), -100),), ()))
        self.few(web, "b", 2, costs)

    def test_a_lot_with_a_price(self):
        ring = (
            ("a", "b", "c"),
            (("pa", "a", "b"), ("pb", "a", "b"), ("q", "a", "c"), ("ra", "b", "c"), ("rb", "b", "c"), ("sa", "c", "b"),
             ("sb", "c", "b"), ("t", "c", "a")))
        costs = (7, 8, 20, 1, 1, 2, 2, -50)
        trees, prices, rents = self.told(ring, "a", 2, costs)
        self.assertEqual(sorted([tie for tree in trees for tie in tree]), ["pa", "pb", "ra", "rb"])
        self.assertIn(("b", "c"), dict(prices))
        trees, prices, rents = self.told(ring, "a", 3, costs)
        self.assertEqual(cost_together(ring, costs, trees), 7 + 8 + 20 + 1 + 1 + 2)
        self.few(ring, "a", 4, costs)

    def test_dear_ties_that_no_tree_can_lack(self):
        # The cheapest tree leaves no second one: both together have the dear tie.
        web = (("a", "b", "c"), (("ab", "a", "b"), ("ac", "a", "c"), ("bc", "b", "c"), ("cb", "c", "b")))
        trees, prices, rents = self.told(web, "a", 2, (1, 1, 50, 60))
        self.assertEqual(sorted(trees), [("ab", "bc"), ("ac", "cb")])
        self.assertEqual(cost_together(web, (1, 1, 50, 60), [cheapest(web, "a", (1, 1, 50, 60))[0]]), 2)

    def test_all_sets_of_trees_of_small_webs(self):
        chance = random.Random(60)
        there = rented = raised = 0
        webs = some_webs() + [TALL] + chance_webs(61, 60, 4, 11) + chance_webs(62, 30, 5, 11)
        webs += [doubled(web) for web in chance_webs(63, 25, 4, 6)]
        for web in webs:
            if len(web[0]) == 1:
                continue
            root = web[0][0]
            trees = trees_of(web, root)
            for many in range(1, 5):
                costs = some_costs(chance, len(web[1]))
                if chance.random() < 0.5:
                    costs = dearer_from(web, root, costs)
                best = cheapest_sets(web, costs, trees, many)
                if best is None:
                    self.few(web, root, many, costs)
                    continue
                told, prices, rents = self.told(web, root, many, costs)
                self.assertEqual(cost_together(web, costs, told), best)
                there += many > 1
                rented += len(rents) > 0
                raised += any([len(lot) > 1 for lot, price in prices])
        self.assertGreater(there, 50)
        self.assertGreater(rented, 40)
        self.assertGreater(raised, 20)

    def test_each_root(self):
        chance = random.Random(64)
        for web in [WEB, TALL] + chance_webs(65, 15, 4, 12):
            for root in web[0]:
                costs = dearer_from(web, root, some_costs(chance, len(web[1])))
                best = cheapest_sets(web, costs, trees_of(web, root), 2)
                if best is None:
                    self.few(web, root, 2, costs)
                else:
                    self.assertEqual(cost_together(web, costs, self.told(web, root, 2, costs)[0]), best)

    def test_six_places_and_forty_ties(self):
        chance = random.Random(66)
        there = [0] * 7
        for step in range(60):
            web = chance_web(chance, 6, 40)
            root = web[0][0]
            costs = some_costs(chance, 40)
            if step % 2:
                costs = dearer_from(web, root, costs)
            most = least(web, root)[0]
            for many in range(1, 7):
                if many > most:
                    self.few(web, root, many, costs)
                else:
                    self.told(web, root, many, costs)
                    there[many] += 1
        self.assertGreater(min(there[1:5]), 3)

    def test_six_trees_of_six_places(self):
        chance = random.Random(67)
        names = ("a", "b", "c", "d", "e", "f")
        for step in range(12):
            ends = []
            for tree in range(6):
                found = ["a"]
                for place in chance.sample(names[1:], 5):
                    ends.append((chance.choice(found), place))
                    found.append(place)
            ends += [tuple(chance.sample(names, 2)) for more in range(10)]
            rows = tuple([("x" + "abcdef"[at // 8] + "abcdefgh"[at % 8],) + pair for at, pair in enumerate(ends)])
            for costs in ((0,) * 40, tuple([chance.randint(-3, 9) for row in rows]), some_costs(chance, 40)):
                for many in (1, 4, 5, 6):
                    self.told((names, rows), "a", many, costs)

    def test_rings_of_cheap_ties(self):
        # Ties from the root are dear, ties among the others cheap, those of two lots cheaper still.
        rows = []
        costs = {}
        for a in "abcdef":
            for b in "bcdef":
                for more in ("x", "y") if a == "a" or (a in "bc") == (b in "bc") else ("x",):
                    if a != b and len(rows) < 40:
                        rows.append((a + b + more, a, b))
                        costs[a + b + more] = 100 + ord(b) if a == "a" else 1 if (a in "bc") == (b in "bc") else 10
        web = (tuple("abcdef"), tuple(sorted(rows)))
        given = tuple([costs[row[0]] for row in web[1]])
        lots = []
        for many in (1, 2, 3, 4):
            trees, prices, rents = self.told(web, "a", many, given)
            lots += [lot for lot, price in prices if len(lot) > 1]
        self.assertIn(("b", "c", "d", "e", "f"), lots)
        self.assertIn(("b", "c"), lots)

    def test_of_one_tree(self):
        chance = random.Random(68)
        for web in some_webs() + [TALL] + chance_webs(69, 60, 6, 40):
            costs = some_costs(chance, len(web[1]))
            root = web[0][0]
            if told_few(cheapest, web, root, costs) is None:
                trees, prices, rents = self.told(web, root, 1, costs)
                self.assertEqual(cost_together(web, costs, trees),
                                 cost_together(web, costs, [cheapest(web, root, costs)[0]]))
            else:
                self.few(web, root, 1, costs)

    def test_great_costs(self):
        web = (("a", "b", "c"), (("ab", "a", "b"), ("abx", "a", "b"), ("ac", "a", "c"), ("bc", "b", "c"), ("cb", "c", "b")))
        costs = (GREAT, -GREAT, GREAT, -GREAT, GREAT - 1)
        trees, prices, rents = self.told(web, "a", 2, costs)
        self.assertEqual(cost_together(web, costs, trees), -1)

    def test_too_few(self):
        self.assertEqual(told_few(cheapest_shares, APART, "a", 1, ()), ("b",))
        self.assertEqual(told_few(cheapest_shares, APART, "b", 6, ()), ("a",))
        both = (("a", "b", "c"), (("p", "a", "c"), ("q", "b", "c"), ("r", "c", "b"), ("s", "c", "b")))
        self.assertEqual(told_few(cheapest_shares, both, "a", 2, (1, 1, 1, 1)), ("b", "c"))

    def test_so_many_times_as_great_and_so_much_more(self):
        chance = random.Random(70)
        for web in [WEB] + chance_webs(71, 30, 6, 40):
            root = web[0][0]
            for many in (1, 2, 3):
                costs = some_costs(chance, len(web[1]))
                if told_few(cheapest_shares, web, root, many, costs) is not None:
                    continue
                total = cost_together(web, costs, cheapest_shares(web, root, many, costs)[0])
                other = tuple([3 * cost - 5 for cost in costs])
                self.assertEqual(cost_together(web, other, self.told(web, root, many, other)[0]),
                                 3 * total - 5 * many * (len(web[0]) - 1))

    def test_renamed(self):
        chance = random.Random(72)
        for web in [WEB, TALL] + chance_webs(73, 30, 6, 30):
            places, ties = turned_names(web)
            costs = some_costs(chance, len(web[1]))
            other = renamed(web, places, ties)
            each = {ties[row[0]]: cost for row, cost in zip(web[1], costs)}
            given = tuple([each[row[0]] for row in other[1]])
            root = web[0][0]
            for many in (1, 2, 3):
                if told_few(cheapest_shares, web, root, many, costs) is not None:
                    self.few(other, places[root], many, given)
                    continue
                self.assertEqual(cost_together(web, costs, cheapest_shares(web, root, many, costs)[0]),
                                 cost_together(other, given, cheapest_shares(other, places[root], many, given)[0]))

    def test_a_told_list_is_the_askers_own(self):
        before = cheapest_shares(WEB, "a", 2, COSTS)
        told = cheapest_shares(WEB, "a", 2, COSTS)
        told[0].append(None)
        told[0][0] = ()
        self.assertEqual(cheapest_shares(WEB, "a", 2, COSTS), before)
        cheapest_shares(ALONE, "a", 2, ())[0].clear()
        self.assertEqual(cheapest_shares(ALONE, "a", 2, ()), ([(), ()], (), ()))

    def test_what_is_handed_in_stays(self):
        before = keep((WEB, COSTS))
        cheapest_shares(WEB, "a", 2, COSTS)
        self.assertEqual(keep((WEB, COSTS)), before)

    def test_no_web(self):
        for thing in NO_WEBS:
            refused(self, NoWeb, cheapest_shares, thing, "a", 1, ())
            refused(self, NoWeb, cheapest_shares, thing, thing, thing, thing)

    def test_no_place(self):
        for thing in NO_NAMES + ["e", "ab"]:
            refused(self, NoPlace, cheapest_shares, WEB, thing, 1, COSTS)
            refused(self, NoPlace, cheapest_shares, WEB, thing, thing, thing)
            refused(self, NoPlace, cheapest_shares, WEB, "e", thing, thing)

    def test_no_number(self):
        before = cheapest_shares(WEB, "a", 2, COSTS)
        for at, thing in enumerate(NO_NUMBERS):
            with self.subTest(at=at):
                refused(self, NoNumber, cheapest_shares, WEB, "a", thing, COSTS)
                # NoNumber goes ahead of NoCosts and of TooFew.
                refused(self, NoNumber, cheapest_shares, WEB, "a", thing, thing)
                refused(self, NoNumber, cheapest_shares, APART, "a", thing, ())
                self.assertEqual(cheapest_shares(WEB, "a", 2, COSTS), before)

    def test_no_costs(self):
        before = cheapest_shares(WEB, "a", 2, COSTS)
        for at, thing in enumerate(NO_COSTS):
            with self.subTest(at=at):
                refused(self, NoCosts, cheapest_shares, WEB, "a", 2, thing)
                # NoCosts goes ahead of TooFew.
                refused(self, NoCosts, cheapest_shares, WEB, "a", 6, thing)
                self.assertEqual(cheapest_shares(WEB, "a", 2, COSTS), before)
        for thing in ODD + [(1,), []]:
            refused(self, NoCosts, cheapest_shares, APART, "a", 1, thing)
            refused(self, NoCosts, cheapest_shares, ALONE, "a", 1, thing)


if __name__ == "__main__":
    unittest.main()
