import itertools
import random
import unittest

from rootshares.errors import NoCosts, NoPlace, NoWeb
from rootshares.exchanges import reads_shares
from rootshares.many import cheapest_shares
from things import (ALONE, APART, COSTS, NO_COSTS, NO_NAMES, NO_WEBS, NO_WHOLES, ODD, WEB, Prickly, chance_webs, holds,
                    keep, lots_without, paying, refused, some_costs, told_few)

# Two trees into a ring of b and c that pays together; the root is a.
RING = (
    ("a", "b", "c"),
    (("pa", "a", "b"), ("pb", "a", "b"), ("q", "a", "c"), ("ra", "b", "c"), ("rb", "b", "c"), ("sa", "c", "b"),
     ("sb", "c", "b"), ("t", "c", "a")))
RING_COSTS = (7, 8, 20, 1, 1, 2, 2, -50)
RING_TREES = [("pa", "ra"), ("pb", "rb")]
RING_PRICES = ((("b",), 2), (("b", "c"), 6), (("c",), 1))
RING_RENTS = (("pa", 1),)

# Many ties from one place to another, each with a cost of its own.
LINE = (("a", "b"), tuple([(name, "a", "b") for name in "pqrstuv"]))
LINE_COSTS = (1, 5, 9, 9, 9, 9, 9)


def changed_rows(rows):
    """A tuple of pairs of something and a number, with one thing of it changed."""
    for at, (one, number) in enumerate(rows):
        for other in (number + 1, number - 1, 0, -number, number + 10 ** 29, str(number), None, True, False, (number,)):
            yield rows[:at] + ((one, other),) + rows[at + 1:]
        yield rows[:at] + rows[at + 1:]
        yield rows[:at] + ((number, one),) + rows[at + 1:]
        yield rows[:at] + ([one, number],) + rows[at + 1:]
        yield rows[:at] + ((one,),) + rows[at + 1:]
        yield rows[:at] + ((one, number, number),) + rows[at + 1:]
        yield rows[:at] + (rows[at], rows[at]) + rows[at + 1:]
        yield rows[:at] + (one,) + rows[at + 1:]
        for thing in ODD:
            yield rows[:at] + (thing,) + rows[at + 1:]
            yield rows[:at] + ((thing, number),) + rows[at + 1:]
    for thing in NO_WHOLES:
        yield rows[:-1] + ((rows[-1][0], thing),)
    yield list(rows)
    yield [list(row) for row in rows]
    yield dict(rows)
    yield (rows,)
    yield rows[0]
    yield rows + (None,)
    yield rows + ((),)


class ReadsShares(unittest.TestCase):
    def read(self, trees, prices, rents):
        """Whether things are read with the ring; what is right is read behind it as ahead of it."""
        told = reads_shares(RING, "a", RING_COSTS, trees, prices, rents)
        self.assertIs(reads_shares(RING, "a", RING_COSTS, RING_TREES, RING_PRICES, RING_RENTS), True)
        return told

    def line(self, costs, trees, prices, rents):
        return reads_shares(LINE, "a", costs, trees, prices, rents)

    def test_as_told(self):
        self.assertIs(self.read(RING_TREES, RING_PRICES, RING_RENTS), True)
        self.assertIs(holds(RING, "a", RING_COSTS, RING_TREES, RING_PRICES, RING_RENTS), True)
        self.assertIs(self.line(LINE_COSTS, [("p",), ("q",)], ((("b",), 5),), (("p", 4),)), True)
        self.assertIs(self.line(LINE_COSTS, [("p",), ("q",)], ((("b",), 9),), (("p", 8), ("q", 4))), True)
        self.assertIs(self.line(LINE_COSTS, [("p",)], ((("b",), 1),), ()), True)
        self.assertIs(self.line(LINE_COSTS, [("p",)], ((("b",), 3),), (("p", 2),)), True)
        self.assertIs(self.line((0,) * 7, [("p",), ("s",)], (), ()), True)
        self.assertIs(self.line((-3, -1, -1, 0, 0, 0, 0), [("p",), ("r",)], ((("b",), -1),), (("p", 2),)), True)

    def test_in_another_order(self):
        self.assertIs(self.read(RING_TREES[::-1], RING_PRICES, RING_RENTS), True)
        self.assertIs(self.read([("pa", "rb"), ("pb", "ra")], RING_PRICES, RING_RENTS), True)
        # The one tree that has the tie with the rent is a cheapest one, too.
        self.assertIs(self.read([("pa", "rb")], RING_PRICES, RING_RENTS), True)
        trees = [("p",), ("q",), ("r",), ("t",)]
        for order in itertools.permutations(trees):
            self.assertIs(self.line(LINE_COSTS, list(order), ((("b",), 9),), (("p", 8), ("q", 4))), True)

    def test_of_the_root_alone(self):
        for many in range(1, 7):
            self.assertIs(reads_shares(ALONE, "a", (), [()] * many, (), ()), True)
        for trees in ([], [()] * 7, (), ((),), [(), None], [((),)], [[]], None, [("a",)]):
            self.assertIs(reads_shares(ALONE, "a", (), trees, (), ()), False)
        self.assertIs(reads_shares(ALONE, "a", (), [()], ((("a",), 1),), ()), False)
        self.assertIs(reads_shares(ALONE, "a", (), [()], (), (("a", 1),)), False)
        self.assertIs(reads_shares(ALONE, "a", (), [()], [], ()), False)
        self.assertIs(reads_shares(ALONE, "a", (), [()], (), []), False)

    def test_one_to_six_trees(self):
        trees = [(name,) for name in "pqrstuv"]
        for many in range(1, 7):
            self.assertIs(self.line((4,) * 7, trees[:many], ((("b",), 4),), ()), True)
        self.assertIs(self.line((4,) * 7, trees, ((("b",), 4),), ()), False)
        self.assertIs(self.line((4,) * 7, [], ((("b",), 4),), ()), False)
        self.assertIs(self.line((0,) * 7, [], (), ()), False)

    def test_wrong_prices(self):
        for at, prices in enumerate(changed_rows(RING_PRICES)):
            with self.subTest(at=at):
                self.assertIs(self.read(RING_TREES, prices, RING_RENTS), False)
        for thing in ODD + [(), None, "", "b", RING_RENTS]:
            self.assertIs(self.read(RING_TREES, thing, RING_RENTS), False)
        for order in itertools.permutations(RING_PRICES):
            self.assertIs(self.read(RING_TREES, order, RING_RENTS), order == RING_PRICES)

    def test_wrong_rents(self):
        for at, rents in enumerate(changed_rows(RING_RENTS)):
            # True stands where 1 would be right.
            with self.subTest(at=at):
                self.assertIs(self.read(RING_TREES, RING_PRICES, rents), False)
        for thing in ODD + [(), None, "", "pa", RING_PRICES]:
            self.assertIs(self.read(RING_TREES, RING_PRICES, thing), False)
        for at, rents in enumerate(changed_rows((("p", 8), ("q", 4)))):
            with self.subTest(at=at):
                self.assertIs(self.line(LINE_COSTS, [("p",), ("q",)], ((("b",), 9),), rents), False)
        self.assertIs(self.line(LINE_COSTS, [("p",), ("q",)], ((("b",), 9),), (("q", 4), ("p", 8))), False)

    def test_rents_that_are_none(self):
        for more in [("pb", 1), ("sa", 1), ("q", 1), ("t", 1), ("x", 1), ("ra", 0), ("ra", -1), ("rb", True), ("pa", 1)]:
            rents = tuple(sorted(RING_RENTS + (more,)))
            self.assertIs(self.read(RING_TREES, RING_PRICES, rents), False)
        # Costs that would be met with such rents: of a tie that no tree has, of one to the root, of 0 and below it.
        for name in ("q", "sa", "t"):
            costs = tuple([paying(RING_PRICES, start, end) - (end == "a") - (tie in (name, "pa"))
                           for tie, start, end in RING[1]])
            rents = tuple(sorted((("pa", 1), (name, 1))))
            self.assertIs(reads_shares(RING, "a", costs, RING_TREES, RING_PRICES, rents), False)
        for rent in (0, -1, -20):
            costs = (8 - rent,) + RING_COSTS[1:]
            self.assertIs(reads_shares(RING, "a", costs, RING_TREES, RING_PRICES, (("pa", rent),)), False)
        self.assertIs(reads_shares(RING, "a", (8,) + RING_COSTS[1:], RING_TREES, RING_PRICES, ()), True)
        # Two rents of one tie that would together be right.
        self.assertIs(self.line(LINE_COSTS, [("p",), ("q",)], ((("b",), 5),), (("p", 2), ("p", 2))), False)
        self.assertIs(self.line(LINE_COSTS, [("p",), ("q",)], ((("b",), 5),), (("p", 1), ("p", 4))), False)

    def test_lots_that_cross(self):
        rows = tuple(sorted([(way + more, a, b) for way, a, b in (("p", "a", "c"), ("q", "c", "b"), ("r", "c", "d"))
                             for more in "xy"]))
        web = (("a", "b", "c", "d"), rows)
        trees = [("px", "qx", "rx"), ("py", "qy", "ry")]
        crossing = ((("b", "c"), 1), (("c", "d"), 1))
        for each in (crossing[:1], crossing[1:], crossing):
            costs = tuple([paying(each, start, end) for name, start, end in rows])
            self.assertIs(reads_shares(web, "a", costs, trees, each, ()), len(each) == 1)

    def test_lots_with_the_root(self):
        for row in [(("a",), 1), (("a", "b"), 1), (("a", "c"), 1), (("a", "b", "c"), 1), (("a",), -1)]:
            prices = tuple(sorted(RING_PRICES + (row,)))
            costs = tuple([paying(prices, start, end) - (name == "pa") for name, start, end in RING[1]])
            self.assertIs(reads_shares(RING, "a", costs, RING_TREES, prices, RING_RENTS), False)

    def test_a_lot_with_a_price_into_which_other_than_so_many_lead(self):
        trees = [("pa", "q"), ("pb", "rb")]
        costs = tuple([paying(RING_PRICES, start, end) - (name == "pa") for name, start, end in RING[1]])
        self.assertIs(reads_shares(RING, "a", costs, RING_TREES, RING_PRICES, RING_RENTS), True)
        self.assertIs(reads_shares(RING, "a", costs, trees, RING_PRICES, RING_RENTS), False)
        singles = ((("b",), 8), (("c",), 7))
        costs = tuple([paying(singles, start, end) for name, start, end in RING[1]])
        self.assertIs(reads_shares(RING, "a", costs, trees, singles, ()), True)

    def test_prices_below_0(self):
        below = ((("b",), 10), (("b", "c"), -4), (("c",), 1))
        costs = tuple([paying(below, start, end) for name, start, end in RING[1]])
        self.assertIs(reads_shares(RING, "a", costs, RING_TREES, below, ()), False)
        single = ((("b",), -10), (("b", "c"), 4), (("c",), -1))
        costs = tuple([paying(single, start, end) for name, start, end in RING[1]])
        self.assertIs(reads_shares(RING, "a", costs, RING_TREES, single, ()), True)

    def test_ties_that_pay_more_or_less(self):
        for at, (name, start, end) in enumerate(RING[1]):
            for more in (-1, 1, -30, 30):
                costs = RING_COSTS[:at] + (RING_COSTS[at] + more,) + RING_COSTS[at + 1:]
                told = reads_shares(RING, "a", costs, RING_TREES, RING_PRICES, RING_RENTS)
                self.assertIs(told, holds(RING, "a", costs, RING_TREES, RING_PRICES, RING_RENTS))
                if name in ("pa", "pb", "ra", "rb"):
                    self.assertIs(told, False)
        cheaper = RING_COSTS[:5] + (1,) + RING_COSTS[6:]
        self.assertIs(reads_shares(RING, "a", cheaper, RING_TREES, RING_PRICES, RING_RENTS), False)

    def test_wrong_trees(self):
        wrong = ODD + [
            (), [], tuple(RING_TREES), [list(tree) for tree in RING_TREES], set(RING_TREES), dict(RING_TREES), {},
            RING_TREES[1:], RING_TREES + RING_TREES, [RING_TREES], [RING_TREES[0]] * 2,
            RING_TREES + [()], RING_TREES + [None], [("pa", "ra"), ("pa", "rb")], [("pa", "ra"), ("pb", "ra")],
            [("ra", "pa"), ("pb", "rb")], [("pa", "ra"), ("rb", "sa")], [("pa", "ra"), ("pb", "t")],
            [("pa", "pb"), ("ra", "rb")], [("pa", "ra"), ("pb",)], [("pa", "ra"), ("pb", "q", "rb")],
            [("pa", "ra"), "pb"], [("pa", "ra"), ("pb", "x")], [("pa", "ra"), ("pb", None)],
            [("pa", "ra"), ("pb", Prickly())], [("pa", "ra"), Prickly()], ["pa", "ra"], "pa", ("pa", "ra", "pb", "rb")]
        wrong += [[RING_TREES[0], thing] for thing in ODD]
        for at, trees in enumerate(wrong):
            with self.subTest(at=at):
                self.assertIs(self.read(trees, RING_PRICES, RING_RENTS), False)
        for trees in ([("pa", "ra"), ("pa", "rb")], [("pa", "ra"), ("pb", "ra")], [("pa", "ra")] * 2):
            # Prices by which all ties would be met.
            costs = tuple([paying(RING_PRICES, start, end) for name, start, end in RING[1]])
            self.assertIs(reads_shares(RING, "a", costs, trees, RING_PRICES, ()), False)

    def test_things_of_other_kinds_everywhere(self):
        for thing in ODD + ["", "a", 3, {}, {"a": 1}, [1], [[]]]:
            self.assertIs(self.read(thing, thing, thing), False)
            self.assertIs(self.read(RING_TREES, thing, thing), False)

    def test_where_there_is_no_tree(self):
        for trees in ([()], [("x",)], [], [()] * 2):
            self.assertIs(reads_shares(APART, "a", (), trees, (), ()), False)

    def test_what_the_cheapest_shares_tell_and_faults_of_it(self):
        chance = random.Random(50)
        right = wrong = rented = 0
        for web in [RING, WEB] + chance_webs(51, 60, 6, 30):
            root = web[0][0]
            for many in (1, 2, 3, 4):
                costs = some_costs(chance, len(web[1]))
                if told_few(cheapest_shares, web, root, many, costs) is not None:
                    continue
                trees, prices, rents = cheapest_shares(web, root, many, costs)
                others = [(prices, rents)]
                for at, (lot, price) in enumerate(prices):
                    others.append((prices[:at] + prices[at + 1:], rents))
                    others.append((prices[:at] + ((lot, price + chance.choice([-1, 1])),) + prices[at + 1:], rents))
                for at, (tie, rent) in enumerate(rents):
                    others.append((prices, rents[:at] + rents[at + 1:]))
                    others.append((prices, rents[:at] + ((tie, rent + chance.choice([-1, 1])),) + rents[at + 1:]))
                for lot in chance.sample(lots_without(web, root), 1):
                    others.append((tuple(sorted(prices + ((lot, chance.choice([-1, 1])),))), rents))
                for row in chance.sample(web[1], 2):
                    others.append((prices, tuple(sorted(rents + ((row[0], 1),)))))
                for some in others:
                    wanted = holds(web, root, costs, trees, *some)
                    self.assertIs(reads_shares(web, root, costs, trees, *some), wanted)
                    self.assertIs(reads_shares(web, root, costs, trees[::-1], *some), wanted)
                    right += wanted
                    wrong += not wanted
                rented += len(rents) > 1
        self.assertGreater(right, 40)
        self.assertGreater(wrong, 300)
        self.assertGreater(rented, 20)

    def test_what_is_handed_in_stays(self):
        given = [RING, RING_COSTS, [("pa", "ra"), ("pb", "rb")], [list(row) for row in RING_PRICES], [["pa", 1]]]
        before = keep(given)
        reads_shares(given[0], "a", given[1], given[2], given[3], given[4])
        reads_shares(given[0], "a", given[1], given[2], RING_PRICES, RING_RENTS)
        self.assertEqual(keep(given), before)

    def test_no_web(self):
        for thing in NO_WEBS:
            refused(self, NoWeb, reads_shares, thing, "a", (), [()], (), ())
            refused(self, NoWeb, reads_shares, thing, thing, thing, thing, thing, thing)

    def test_no_place(self):
        for thing in NO_NAMES + ["e", "ab"]:
            refused(self, NoPlace, reads_shares, WEB, thing, COSTS, [("ab", "ac", "bd")], (), ())
            refused(self, NoPlace, reads_shares, WEB, thing, thing, thing, thing, thing)

    def test_no_costs(self):
        for at, thing in enumerate(NO_COSTS):
            with self.subTest(at=at):
                refused(self, NoCosts, reads_shares, WEB, "a", thing, [("ab", "ac", "bd")], (), ())
                refused(self, NoCosts, reads_shares, WEB, "a", thing, thing, thing, thing)
                self.assertIs(self.read(RING_TREES, RING_PRICES, RING_RENTS), True)


if __name__ == "__main__":
    unittest.main()
