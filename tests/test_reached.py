import unittest

from rootshares.errors import NoPlace, NoWeb
from rootshares.reached import fewest, first_tree, reached
from things import (ALONE, APART, NO_NAMES, NO_WEBS, TALL, WEB, all_ways, chance_webs, into, is_way, refused,
                    renamed, share_fault, some_webs, steps_of, told_few, turned_names, walk_back)

RING = (("a", "b", "c", "d"), (("p", "a", "b"), ("q", "b", "c"), ("r", "c", "d"), ("s", "d", "a")))
TWO = (("a", "b"), (("p", "a", "b"), ("q", "a", "b"), ("r", "a", "b")))
# A long way by ties that come first, and a short one by ties that come last.
LONG = (
    ("a", "b", "c", "d", "e"),
    (("p", "a", "b"), ("q", "b", "c"), ("r", "c", "d"), ("s", "d", "e"), ("y", "a", "d"), ("z", "b", "e")))
HALF = (("a", "b", "c", "d", "e"), (("p", "b", "c"), ("q", "c", "b"), ("r", "d", "b"), ("s", "b", "a")))


def tried_webs():
    return some_webs() + [RING, TWO, LONG, HALF, TALL] + chance_webs(9, 60, 7, 14)


class Reached(unittest.TestCase):
    def test_rings_and_chains(self):
        for root in "abcd":
            self.assertEqual(reached(RING, root), ["a", "b", "c", "d"])
        self.assertEqual(reached(TWO, "a"), ["a", "b"])
        self.assertEqual(reached(TWO, "b"), ["b"])
        self.assertEqual(reached(HALF, "d"), ["a", "b", "c", "d"])
        self.assertEqual(reached(HALF, "c"), ["a", "b", "c"])
        self.assertEqual(reached(HALF, "e"), ["e"])

    def test_itself_alone(self):
        self.assertEqual(reached(ALONE, "a"), ["a"])
        self.assertEqual(reached(APART, "b"), ["b"])

    def test_all_places_with_a_way(self):
        for web in tried_webs():
            for root in web[0]:
                told = reached(web, root)
                self.assertEqual(told, [place for place in web[0] if all_ways(web, root, place)])
                self.assertIsInstance(told, list)

    def test_a_told_list_is_the_askers_own(self):
        told = reached(RING, "a")
        told[0] = "z"
        told.pop()
        self.assertEqual(reached(RING, "a"), ["a", "b", "c", "d"])
        self.assertEqual(RING[0], ("a", "b", "c", "d"))

    def test_renamed(self):
        for web in tried_webs():
            places, ties = turned_names(web)
            for root in web[0]:
                told = reached(renamed(web, places, ties), places[root])
                self.assertEqual(told, sorted([places[place] for place in reached(web, root)]))

    def test_refusals(self):
        for thing in NO_WEBS:
            refused(self, NoWeb, reached, thing, "a")
            refused(self, NoWeb, reached, thing, thing)
        for thing in NO_NAMES + ["e", "ab"]:
            refused(self, NoPlace, reached, WEB, thing)
            self.assertEqual(reached(WEB, "a"), ["a", "b", "c", "d"])


class FirstTree(unittest.TestCase):
    def test_where_there_is_just_one(self):
        self.assertEqual(first_tree(ALONE, "a"), ())
        self.assertEqual(first_tree(RING, "a"), ("p", "q", "r"))
        self.assertEqual(first_tree(RING, "c"), ("p", "r", "s"))
        self.assertEqual(first_tree((("a", "b"), (("p", "b", "a"),)), "b"), ("p",))

    def test_ways_of_as_few_ties_as_there_are(self):
        self.assertIn(first_tree(LONG, "a"), [("p", "q", "y", "z"), ("p", "q", "s", "y")])
        self.assertIn(first_tree(TWO, "a"), [("p",), ("q",), ("r",)])

    def test_all_webs(self):
        trees = 0
        for web in tried_webs():
            for root in web[0]:
                away = [place for place in web[0] if not all_ways(web, root, place)]
                if away:
                    self.assertEqual(told_few(first_tree, web, root), tuple(away))
                    continue
                told = first_tree(web, root)
                trees += 1
                self.assertEqual(share_fault(web, [root], [told]), "")
                for place in web[0]:
                    least = min([len(way) for way in all_ways(web, root, place)])
                    self.assertEqual(len(walk_back(web, root, told, place)), least)
                self.assertEqual(first_tree(web, root), told)
        self.assertGreater(trees, 60)

    def test_places_that_are_not_reached(self):
        self.assertEqual(told_few(first_tree, APART, "a"), ("b",))
        self.assertEqual(told_few(first_tree, TWO, "b"), ("a",))
        self.assertEqual(told_few(first_tree, HALF, "d"), ("e",))
        self.assertEqual(told_few(first_tree, HALF, "b"), ("d", "e"))
        self.assertEqual(told_few(first_tree, HALF, "e"), ("a", "b", "c", "d"))
        for root in "abcde":
            lot = told_few(first_tree, HALF, root)
            self.assertIsInstance(lot, tuple)
            self.assertEqual(into(HALF, lot), 0)

    def test_refusals(self):
        for thing in NO_WEBS:
            refused(self, NoWeb, first_tree, thing, "a")
            refused(self, NoWeb, first_tree, thing, thing)
        before = first_tree(WEB, "a")
        for thing in NO_NAMES + ["e", "ab"]:
            refused(self, NoPlace, first_tree, WEB, thing)
            self.assertEqual(first_tree(WEB, "a"), before)
        # NoPlace goes ahead of TooFew.
        refused(self, NoPlace, first_tree, APART, "c")


class Fewest(unittest.TestCase):
    def test_to_itself(self):
        for web in tried_webs():
            for place in web[0]:
                self.assertEqual(fewest(web, place, place), ())

    def test_where_there_is_just_one(self):
        self.assertEqual(fewest(LONG, "a", "d"), ("y",))
        self.assertEqual(fewest(LONG, "b", "e"), ("z",))
        self.assertEqual(fewest(RING, "c", "b"), ("r", "s", "p"))
        self.assertEqual(fewest(RING, "b", "a"), ("q", "r", "s"))

    def test_several_ties_between_two_places(self):
        self.assertIn(fewest(TWO, "a", "b"), [("p",), ("q",), ("r",)])

    def test_none(self):
        self.assertIs(fewest(APART, "a", "b"), None)
        self.assertIs(fewest(TWO, "b", "a"), None)
        self.assertIs(fewest(HALF, "a", "b"), None)
        self.assertIs(fewest(HALF, "b", "e"), None)

    def test_all_pairs(self):
        for web in tried_webs():
            for a in web[0]:
                for b in web[0]:
                    lengths = [len(way) for way in all_ways(web, a, b)]
                    told = fewest(web, a, b)
                    if not lengths:
                        self.assertIs(told, None)
                        continue
                    self.assertTrue(is_way(web, a, b, told))
                    self.assertEqual(len(told), min(lengths))
                    self.assertEqual(fewest(web, a, b), told)

    def test_steps_in_order(self):
        self.assertEqual([row[1] for row in steps_of(RING, fewest(RING, "c", "b"))], ["c", "d", "a"])

    def test_refusals(self):
        for thing in NO_WEBS:
            refused(self, NoWeb, fewest, thing, "a", "b")
            refused(self, NoWeb, fewest, thing, thing, thing)
        before = fewest(WEB, "a", "d")
        for thing in NO_NAMES + ["e", "ab"]:
            refused(self, NoPlace, fewest, WEB, thing, "a")
            refused(self, NoPlace, fewest, WEB, "a", thing)
            refused(self, NoPlace, fewest, WEB, thing, thing)
            self.assertEqual(fewest(WEB, "a", "d"), before)


if __name__ == "__main__":
    unittest.main()
