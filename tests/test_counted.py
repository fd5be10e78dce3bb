import random
import unittest

from rootshares.counted import all_trees, count, count_with, number_of, tree_at
from rootshares.errors import NoNumber, NoPlace, NoTie, NoTree, NoWeb, TooMany
from rootshares.tables import determinant, table
from rootshares.trees import is_tree
from things import (ALONE, APART, NO_NAMES, NO_WEBS, NO_WHOLES, ODD, TALL, WEB, Prickly, chance_web, chance_webs, refused,
                    renamed, some_webs, trees_of, turned_names)

# Just 100 trees from a, and just 101.
HUNDRED = (("a", "b", "c"), tuple(
    [("p" + x, "a", "b") for x in "abcdefghij"] + [("q" + x, "a", "c") for x in "abcdefghij"]))
MORE = (("a", "b", "c"), tuple(sorted(
    [("p" + x, "a", "b") for x in "abcde"] + [("q" + x, "a", "c") for x in "abcdefghijklmnop"] +
    [("x", "b", "c"), ("y", "c", "b")])))


def tried_webs():
    return some_webs() + [TALL] + chance_webs(100, 60, 5, 10)


class Count(unittest.TestCase):
    def test_the_list_of_all_trees(self):
        for web in tried_webs():
            for root in web[0]:
                told = count(web, root)
                self.assertIs(told.__class__, int)
                self.assertEqual(told, len(trees_of(web, root)))
                self.assertEqual(told, determinant(table(web, root)))

    def test_edges(self):
        self.assertEqual(count(ALONE, "a"), 1)
        self.assertEqual(count(APART, "a"), 0)
        self.assertEqual(count(TALL, "e"), len(trees_of(TALL, "e")))
        chain = (("a", "b", "c"), (("p", "a", "b"), ("q", "b", "c")))
        self.assertEqual([count(chain, root) for root in "abc"], [1, 0, 0])
        self.assertEqual((count(HUNDRED, "a"), count(MORE, "a")), (100, 101))

    def test_great_ones(self):
        rows = tuple(sorted([(b + x, "a", b) for b in "bcdefgh" for x in "klmno"]))
        self.assertEqual(count((tuple("abcdefgh"), rows), "a"), 5 ** 7)
        # All ties between all of six places, in both ways: as many as trees of six marked places.
        rows = tuple(sorted([(a + b, a, b) for a in "abcdef" for b in "abcdef" if a != b]))
        for root in "abcdef":
            self.assertEqual(count((tuple("abcdef"), rows), root), 6 ** 4)

    def test_refusals(self):
        for thing in NO_WEBS:
            refused(self, NoWeb, count, thing, "a")
            refused(self, NoWeb, count, thing, thing)
        for thing in NO_NAMES + ["e", "ab"]:
            refused(self, NoPlace, count, WEB, thing)
        self.assertEqual(count(WEB, "a"), len(trees_of(WEB, "a")))


class AllTrees(unittest.TestCase):
    def test_small_webs(self):
        for web in tried_webs():
            for root in web[0]:
                wanted = trees_of(web, root)
                if len(wanted) > 100:
                    refused(self, TooMany, all_trees, web, root)
                    continue
                told = all_trees(web, root)
                self.assertIsInstance(told, list)
                self.assertEqual(told, wanted)
                self.assertEqual(told, sorted(told))

    def test_edges(self):
        self.assertEqual(all_trees(ALONE, "a"), [()])
        self.assertEqual(all_trees(APART, "a"), [])
        self.assertEqual(all_trees(HUNDRED, "a"), trees_of(HUNDRED, "a"))
        self.assertEqual(len(all_trees(HUNDRED, "a")), 100)
        refused(self, TooMany, all_trees, MORE, "a")
        self.assertEqual(all_trees(MORE, "b"), [])

    def test_far_too_many(self):
        refused(self, TooMany, all_trees, (tuple("abcdefgh"), tuple(sorted(
            [(b + x, "a", b) for b in "bcdefgh" for x in "klmno"]))), "a")

    def test_renamed(self):
        for web in some_webs():
            places, ties = turned_names(web)
            for root in web[0]:
                wanted = sorted([tuple(sorted([ties[tie] for tie in tree])) for tree in all_trees(web, root)])
                self.assertEqual(all_trees(renamed(web, places, ties), places[root]), wanted)

    def test_a_told_list_is_the_askers_own(self):
        before = all_trees(WEB, "a")
        all_trees(WEB, "a").clear()
        all_trees(WEB, "a")[0] = None
        all_trees(ALONE, "a").append(1)
        self.assertEqual(all_trees(WEB, "a"), before)
        self.assertEqual(all_trees(ALONE, "a"), [()])

    def test_refusals(self):
        for thing in NO_WEBS:
            refused(self, NoWeb, all_trees, thing, "a")
            refused(self, NoWeb, all_trees, thing, thing)
        for thing in NO_NAMES + ["e", "ab"]:
            refused(self, NoPlace, all_trees, WEB, thing)
            # Ahead of TooMany.
            refused(self, NoPlace, all_trees, (("b", "c", "d"), tuple(
                [("p" + x, "b", "c") for x in "abcdefghijk"] + [("q" + x, "b", "d") for x in "abcdefghijk"])), thing)


class CountWith(unittest.TestCase):
    def test_no_ties(self):
        for web in tried_webs():
            for root in web[0]:
                self.assertEqual(count_with(web, root, (), ()), len(trees_of(web, root)))

    def test_with_and_without_a_tie(self):
        for web in tried_webs():
            for root in web[0]:
                trees = trees_of(web, root)
                for name, start, end in web[1]:
                    having = len([tree for tree in trees if name in tree])
                    self.assertEqual(count_with(web, root, (name,), ()), having)
                    self.assertEqual(count_with(web, root, (), (name,)), len(trees) - having)
                    self.assertEqual(count_with(web, root, (name,), (name,)), 0)
                    self.assertEqual(count_with(web, root, (name, name), ()), having)
                    self.assertEqual(count_with(web, root, (), (name, name, name)), len(trees) - having)
                    if end == root:
                        self.assertEqual(having, 0)

    def test_two_ties_to_one_place_and_ties_to_the_root(self):
        self.assertEqual(count_with(WEB, "a", ("a", "ab"), ()), 0)
        self.assertEqual(count_with(WEB, "a", ("bd", "cd"), ()), 0)
        self.assertEqual(count_with(WEB, "a", ("da",), ()), 0)
        self.assertEqual(count_with(WEB, "a", ("bd", "da"), ()), 0)
        self.assertEqual(count_with(WEB, "a", (), ("da",)), count(WEB, "a"))
        self.assertEqual(count_with(WEB, "a", ("bd",), ("da",)), count_with(WEB, "a", ("bd",), ()))
        self.assertEqual(count_with(WEB, "a", ("ab", "ac", "bd"), ()), 1)
        self.assertEqual(count_with(WEB, "a", ("bd", "ac", "ab", "ac"), ("a", "cd")), 1)
        self.assertEqual(count_with(WEB, "a", ("bd", "db"), ()), 0)

    def test_ties_of_a_ring(self):
        ring = (("a", "b", "c"), (("p", "a", "b"), ("q", "b", "c"), ("r", "c", "b"), ("s", "a", "c")))
        self.assertEqual(count_with(ring, "a", ("q", "r"), ()), 0)
        self.assertEqual(count_with(ring, "a", (), ("p", "s")), 0)

    def test_some_ties_and_others(self):
        chance = random.Random(101)
        for web in tried_webs():
            names = [row[0] for row in web[1]]
            root = chance.choice(web[0])
            trees = trees_of(web, root)
            for step in range(6 if names else 0):
                some = tuple([chance.choice(names) for many in range(chance.randint(0, 3))])
                others = tuple([chance.choice(names) for many in range(chance.randint(0, 3))])
                wanted = [tree for tree in trees if set(some) <= set(tree) and not set(others) & set(tree)]
                self.assertEqual(count_with(web, root, some, others), len(wanted))

    def test_of_the_root_alone(self):
        self.assertEqual(count_with(ALONE, "a", (), ()), 1)
        refused(self, NoTie, count_with, ALONE, "a", ("p",), ())

    def test_refusals(self):
        for thing in NO_WEBS:
            refused(self, NoWeb, count_with, thing, "a", (), ())
            refused(self, NoWeb, count_with, thing, thing, thing, thing)
        for thing in NO_NAMES + ["e", "ab"]:
            refused(self, NoPlace, count_with, WEB, thing, (), ())
            refused(self, NoPlace, count_with, WEB, "e", thing, thing)
        wrong = ODD + [
            "a", "ab", ["ab"], [], {"ab"}, {"ab": 1}, ("b",), ("ab", "b"), ("b", "ab"), ("ab", None), ("ab", Prickly()),
            ("ab", ["ac"]), (("ab", "a", "b"),), ("ab", 1), ("ab", ("ac",)), ("AB",)]
        for at, thing in enumerate(wrong):
            with self.subTest(at=at):
                refused(self, NoTie, count_with, WEB, "a", thing, ())
                refused(self, NoTie, count_with, WEB, "a", (), thing)
                refused(self, NoTie, count_with, WEB, "a", ("da",), thing)
                refused(self, NoTie, count_with, WEB, "a", ("ab", "a"), thing)
                refused(self, NoTie, count_with, WEB, "a", thing, thing)
                self.assertEqual(count_with(WEB, "a", (), ()), count(WEB, "a"))


class Numbers(unittest.TestCase):
    def test_each_number_of_small_webs(self):
        for web in tried_webs():
            for root in web[0]:
                trees = trees_of(web, root)
                for number, tree in enumerate(trees):
                    self.assertEqual(tree_at(web, root, number), tree)
                    self.assertEqual(number_of(web, root, tree), number)
                    self.assertIs(number_of(web, root, tree).__class__, int)
                refused(self, NoNumber, tree_at, web, root, len(trees))
                refused(self, NoNumber, tree_at, web, root, -1)

    def test_of_the_root_alone(self):
        self.assertEqual(tree_at(ALONE, "a", 0), ())
        self.assertEqual(number_of(ALONE, "a", ()), 0)

    def test_where_there_is_none(self):
        refused(self, NoNumber, tree_at, APART, "a", 0)
        refused(self, NoTree, number_of, APART, "a", ())

    def test_very_many_trees(self):
        chance = random.Random(102)
        great = 0
        for step in range(14):
            web = chance_web(chance, 8, 40)
            root = web[0][0]
            many = count(web, root)
            if many == 0:
                continue
            great += many > 10 ** 4
            numbers = [0, 1, many // 2, many - 2, many - 1] + [chance.randrange(many) for more in range(6)]
            for number in numbers:
                if not 0 <= number < many:
                    continue
                tree = tree_at(web, root, number)
                self.assertIs(is_tree(web, root, tree), True)
                self.assertEqual(number_of(web, root, tree), number)
                if number + 1 < many:
                    self.assertLess(tree, tree_at(web, root, number + 1))
                self.assertEqual(tree_at(web, root, number), tree)
            refused(self, NoNumber, tree_at, web, root, many)
            refused(self, NoNumber, tree_at, web, root, many + 1)
        self.assertGreater(great, 5)

    def test_each_of_a_row_of_very_many(self):
        rows = tuple(sorted([(b + x, "a", b) for b in "bcdefgh" for x in "klmno"]))
        web = (tuple("abcdefgh"), rows)
        for number in (0, 1, 5, 77, 5 ** 7 - 1, 12345):
            figures = [number // 5 ** at % 5 for at in range(6, -1, -1)]
            wanted = tuple([b + "klmno"[figure] for b, figure in zip("bcdefgh", figures)])
            self.assertEqual(tree_at(web, "a", number), wanted)
            self.assertEqual(number_of(web, "a", wanted), number)

    def test_refusals_of_tree_at(self):
        before = tree_at(WEB, "a", 2)
        for thing in NO_WEBS:
            refused(self, NoWeb, tree_at, thing, "a", 0)
            refused(self, NoWeb, tree_at, thing, thing, thing)
        for thing in NO_NAMES + ["e", "ab"]:
            refused(self, NoPlace, tree_at, WEB, thing, 0)
            refused(self, NoPlace, tree_at, WEB, "e", thing)
        for at, thing in enumerate(NO_WHOLES + [-1, -2, count(WEB, "a"), 10 ** 28, -(10 ** 28)]):
            with self.subTest(at=at):
                refused(self, NoNumber, tree_at, WEB, "a", thing)
                refused(self, NoNumber, tree_at, APART, "a", thing)
                self.assertEqual(tree_at(WEB, "a", 2), before)

    def test_refusals_of_number_of(self):
        for thing in NO_WEBS:
            refused(self, NoWeb, number_of, thing, "a", ())
            refused(self, NoWeb, number_of, thing, thing, thing)
        for thing in NO_NAMES + ["e", "ab"]:
            refused(self, NoPlace, number_of, WEB, thing, ("ab", "ac", "bd"))
            refused(self, NoPlace, number_of, WEB, "e", thing)
        wrong = ODD + [
            (), ("ab",), ("ab", "ac"), ["ab", "ac", "bd"], ("ac", "ab", "bd"), ("ab", "ac", "ac"), ("a", "ab", "bd"),
            ("ab", "bd", "da"), ("bc", "bd", "db"), ("ab", "ac", "zz"), ("ab", "ac", None), ("ab", "ac", Prickly()),
            ("ab", "ac", "bd", "cd"), "ab", (("ab", "ac", "bd"),), {"ab", "ac", "bd"}]
        for at, thing in enumerate(wrong):
            with self.subTest(at=at):
                refused(self, NoTree, number_of, WEB, "a", thing)
                self.assertEqual(tree_at(WEB, "a", number_of(WEB, "a", ("ab", "ac", "bd"))), ("ab", "ac", "bd"))


if __name__ == "__main__":
    unittest.main()
