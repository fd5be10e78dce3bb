import itertools
import random
import unittest

from rootshares.errors import NoLot, NoPlace, NoTree, NoWeb
from rootshares.filled import just_filled, shrunk, within
from rootshares.gluing import parted, together
from rootshares.shares import least, shares
from things import (ALONE, APART, NO_NAMES, NO_WEBS, ODD, TALL, WEB, Prickly, chance_webs, doubled, into, keep,
                    lots_without, refused, share_fault, some_webs)

# Two shares from a; into b, c together lead just two ties, p and q, and into d three.
LOT = ("b", "c")
GLUED = (
    ("a", "b", "c", "d"),
    (("p", "a", "b"), ("q", "a", "c"), ("r", "b", "c"), ("s", "c", "b"), ("t", "b", "d"), ("u", "c", "d"),
     ("v", "a", "d"), ("w", "d", "a")))
TREES = [("p", "r", "v"), ("q", "s", "t")]
OUTER = [("p", "v"), ("q", "t")]
INNER = [("p", "r"), ("q", "s")]


def cases(seed):
    """Webs with a root, a lot that is just filled, and as many shares."""
    webs = some_webs() + [GLUED, WEB, TALL] + [doubled(web) for web in some_webs()[3:40]]
    for web in webs + chance_webs(seed, 40, 7, 26):
        root = web[0][0]
        found = least(web, root)
        if found is None:
            continue
        many = min(found[0], 6)
        trees = shares(web, root, many)
        for lot in just_filled(web, root, many):
            yield web, root, lot, trees


def rejoined(web, lot, outer, inner):
    """Shares put together, by the definition."""
    entering = [row[0] for row in web[1] if row[2] in lot and row[1] not in lot]
    told = []
    for tree in outer:
        for other in inner:
            if [tie for tie in entering if tie in tree and tie in other]:
                told.append(tuple(sorted(set(tree) | set(other))))
    return told


class Parted(unittest.TestCase):
    def test_of_a_web(self):
        self.assertEqual(parted(GLUED, "a", LOT, TREES), (OUTER, INNER))
        self.assertEqual(parted(GLUED, "a", LOT, TREES[::-1]), (OUTER[::-1], INNER[::-1]))
        self.assertEqual(parted(GLUED, "a", ("b",), TREES), ([("p", "r", "v"), ("q", "s", "t")], [("p",), ("s",)]))

    def test_none(self):
        web = (("a", "b", "c"), (("p", "a", "b"), ("q", "c", "b"), ("r", "c", "a")))
        self.assertEqual(parted(web, "a", ("c",), []), ([], []))
        self.assertEqual(parted(APART, "a", ("b",), []), ([], []))

    def test_one(self):
        web = (("a", "b", "c"), (("p", "a", "b"), ("q", "b", "c")))
        self.assertEqual(parted(web, "a", ("b", "c"), [("p", "q")]), ([("p",)], [("p", "q")]))
        self.assertEqual(parted(web, "a", ("c",), [("p", "q")]), ([("p", "q")], [("q",)]))

    def test_shares_of_both(self):
        tried = 0
        for web, root, lot, trees in cases(120):
            told = parted(web, root, lot, trees)
            self.assertIsInstance(told, tuple)
            outer, inner = told
            many = len(trees)
            self.assertEqual(share_fault(shrunk(web, lot, "m"), [root] * many, outer), "")
            self.assertEqual(share_fault(within(web, lot, "m"), ["m"] * many, inner), "")
            for tree, one, other in zip(trees, outer, inner):
                self.assertEqual(set(one) | set(other), set(tree))
                self.assertEqual(len(set(one) & set(other)), 1)
            self.assertEqual(parted(web, root, lot, trees), told)
            tried += many > 1 and len(lot) > 1
        self.assertGreater(tried, 10)

    def test_told_lists_are_the_askers_own(self):
        trees = list(TREES)
        outer, inner = parted(GLUED, "a", LOT, trees)
        outer.clear()
        inner[0] = None
        self.assertEqual(parted(GLUED, "a", LOT, trees), (OUTER, INNER))
        self.assertEqual(trees, TREES)
        one, other = parted(APART, "a", ("b",), [])
        one.append(1)
        self.assertEqual(other, [])

    def test_no_web(self):
        for thing in NO_WEBS:
            refused(self, NoWeb, parted, thing, "a", LOT, TREES)
            refused(self, NoWeb, parted, thing, thing, thing, thing)

    def test_no_place(self):
        for thing in NO_NAMES + ["e", "ab"]:
            refused(self, NoPlace, parted, GLUED, thing, LOT, TREES)
            refused(self, NoPlace, parted, GLUED, thing, thing, thing)
            refused(self, NoPlace, parted, GLUED, "e", thing, thing)

    def test_no_lot(self):
        wrong = ODD + [
            (), "b", "bc", ["b", "c"], ("b", "b"), ("c", "b"), ("b", "e"), ("e",), ("b", None), ("b", Prickly()), {"b"},
            ("a",), ("a", "b"), ("a", "b", "c", "d")]
        for at, thing in enumerate(wrong):
            with self.subTest(at=at):
                refused(self, NoLot, parted, GLUED, "a", thing, TREES)
                # NoLot goes ahead of NoTree, of a lot that is none.
                refused(self, NoLot, parted, GLUED, "a", thing, None)
                refused(self, NoLot, parted, GLUED, "a", thing, thing)
                self.assertEqual(parted(GLUED, "a", LOT, TREES), (OUTER, INNER))

    def test_no_tree(self):
        for at, thing in enumerate(self.no_shares()):
            with self.subTest(at=at):
                refused(self, NoTree, parted, GLUED, "a", LOT, thing)
                # NoTree goes ahead of NoLot where other than as many ties lead into the lot.
                refused(self, NoTree, parted, GLUED, "a", ("d",), thing)
                self.assertEqual(parted(GLUED, "a", LOT, TREES), (OUTER, INNER))

    def no_shares(self):
        return ODD_LISTS + [
            tuple(TREES), set(TREES), [list(tree) for tree in TREES], [TREES], TREES + [TREES[0]], [TREES[0]] * 2,
            TREES + [None], TREES + [()], [("p", "r", "v"), ("q", "r", "t")], [("p", "r", "v"), ("q", "s", "v")],
            [("r", "p", "v"), ("q", "s", "t")], [("p", "r", "v"), ("r", "s", "t")], [("p", "r", "v"), ("q", "s", "w")],
            [("p", "r", "v"), ("q", "s")], [("p", "r", "v"), ("q", "s", "z")], [("p", "r", "v"), "q"],
            [("p", "r", "v"), ("q", "s", None)], [("p", "r", "v"), Prickly()], {"p": 1}, ("p", "r", "v"), OUTER, INNER]

    def test_other_than_as_many(self):
        refused(self, NoLot, parted, GLUED, "a", ("d",), TREES)
        refused(self, NoLot, parted, GLUED, "a", LOT, TREES[:1])
        refused(self, NoLot, parted, GLUED, "a", LOT, [])
        self.assertEqual(parted(GLUED, "a", LOT, TREES), (OUTER, INNER))
        for web, root, lot, trees in cases(121):
            for other in lots_without(web, root):
                if into(web, other) != len(trees):
                    refused(self, NoLot, parted, web, root, other, trees)


# Lists and other things that are no list of shares.
ODD_LISTS = [thing for thing in ODD if thing.__class__ is not list or thing] + [[thing] for thing in ODD]


class Together(unittest.TestCase):
    def test_of_a_web(self):
        self.assertEqual(together(GLUED, "a", LOT, OUTER, INNER, "m"), TREES)
        self.assertEqual(together(GLUED, "a", LOT, OUTER, INNER[::-1], "m"), TREES)
        self.assertEqual(together(GLUED, "a", LOT, OUTER[::-1], INNER, "m"), TREES[::-1])
        # A name that a tie has may be a place's.
        self.assertEqual(together(GLUED, "a", LOT, OUTER, INNER, "p"), TREES)

    def test_none(self):
        self.assertEqual(together(APART, "a", ("b",), [], [], "m"), [])

    def test_what_is_parted_comes_together(self):
        tried = 0
        for web, root, lot, trees in cases(122):
            outer, inner = parted(web, root, lot, trees)
            self.assertEqual(together(web, root, lot, outer, inner, "m"), trees)
            self.assertEqual(together(web, root, lot, outer, inner[::-1], "zz"), trees)
            self.assertEqual(together(web, root, lot, outer[::-1], inner, "m"), trees[::-1])
            tried += len(trees) > 1
        self.assertGreater(tried, 20)

    def test_shares_told_anew(self):
        chance = random.Random(123)
        for web, root, lot, trees in cases(124):
            many = len(trees)
            outer = shares(shrunk(web, lot, "m"), root, many)
            inner = shares(within(web, lot, "m"), "m", many)
            chance.shuffle(outer)
            chance.shuffle(inner)
            given = keep((outer, inner))
            told = together(web, root, lot, outer, inner, "m")
            self.assertEqual(share_fault(web, [root] * many, told), "")
            self.assertEqual(told, rejoined(web, lot, outer, inner))
            self.assertEqual(keep((outer, inner)), given)
            self.assertEqual(parted(web, root, lot, told)[0], outer)
            self.assertEqual(sorted(parted(web, root, lot, told)[1]), sorted(inner))
            self.assertEqual(together(web, root, lot, outer, inner, "m"), told)

    def test_each_order(self):
        rows = tuple(sorted([(b + x, a, b) for a, b in (("a", "b"), ("b", "c"), ("b", "d"), ("c", "e")) for x in "xyz"]))
        web = (("a", "b", "c", "d", "e"), rows)
        outer = [("bx", "dx"), ("by", "dy"), ("bz", "dz")]
        inner = [("bx", "cz", "ey"), ("by", "cx", "ez"), ("bz", "cy", "ex")]
        for one in itertools.permutations(outer):
            for other in itertools.permutations(inner):
                told = together(web, "a", ("b", "c", "e"), list(one), list(other), "m")
                self.assertEqual(told, rejoined(web, ("b", "c", "e"), one, other))
                self.assertEqual([tree[0] for tree in told], [tree[0] for tree in one])

    def test_a_told_list_is_the_askers_own(self):
        told = together(GLUED, "a", LOT, OUTER, INNER, "m")
        told.clear()
        self.assertEqual(together(GLUED, "a", LOT, OUTER, INNER, "m"), TREES)
        self.assertEqual((OUTER, INNER), ([("p", "v"), ("q", "t")], [("p", "r"), ("q", "s")]))

    def test_no_web(self):
        for thing in NO_WEBS:
            refused(self, NoWeb, together, thing, "a", LOT, OUTER, INNER, "m")
            refused(self, NoWeb, together, thing, thing, thing, thing, thing, thing)

    def test_no_place(self):
        for at, thing in enumerate(NO_NAMES + ["e", "ab"]):
            with self.subTest(at=at):
                refused(self, NoPlace, together, GLUED, thing, LOT, OUTER, INNER, "m")
                refused(self, NoPlace, together, GLUED, thing, thing, thing, thing, thing)
        for at, thing in enumerate(NO_NAMES + ["a", "b", "c", "d"]):
            with self.subTest(at=at):
                refused(self, NoPlace, together, GLUED, "a", LOT, OUTER, INNER, thing)
                # NoPlace goes ahead of NoLot and of NoTree.
                refused(self, NoPlace, together, GLUED, "a", None, None, None, thing)
                refused(self, NoPlace, together, GLUED, "a", ("a",), OUTER, INNER, thing)
                self.assertEqual(together(GLUED, "a", LOT, OUTER, INNER, "m"), TREES)

    def test_no_lot(self):
        wrong = ODD + [
            (), "b", "bc", ["b", "c"], ("b", "b"), ("c", "b"), ("b", "e"), ("e",), ("b", None), ("b", Prickly()), {"b"},
            ("a",), ("a", "b"), ("a", "b", "c", "d"), ("m",), ("b", "m")]
        for at, thing in enumerate(wrong):
            with self.subTest(at=at):
                refused(self, NoLot, together, GLUED, "a", thing, OUTER, INNER, "m")
                # NoLot goes ahead of NoTree.
                refused(self, NoLot, together, GLUED, "a", thing, thing, thing, "m")
                self.assertEqual(together(GLUED, "a", LOT, OUTER, INNER, "m"), TREES)

    def test_no_tree(self):
        wrong = ODD_LISTS + [
            [], (), tuple(OUTER), OUTER[:1], OUTER + OUTER[:1], OUTER[:1] * 2, OUTER + [None], [OUTER], TREES,
            [list(tree) for tree in OUTER], [("v", "p"), ("q", "t")], [("p", "v"), ("q", "v")], [("p", "v"), ("p", "t")],
            [("p", "v"), ("q", "r")], [("p", "v"), ("q", "s")], [("p", "v"), ("q", "w")], [("p", "v"), ("q",)], {"p": 1},
            [("p", "v"), ("q", "z")], [("p", "v"), ("q", None)], [("p", "v"), Prickly()], set(OUTER), ("p", "v"), "pv"]
        for at, thing in enumerate(wrong):
            with self.subTest(at=at):
                refused(self, NoTree, together, GLUED, "a", LOT, thing, INNER, "m")
                self.assertEqual(together(GLUED, "a", LOT, OUTER, INNER, "m"), TREES)
        wrong = ODD_LISTS + [
            [], (), tuple(INNER), INNER[:1], INNER + INNER[:1], INNER[:1] * 2, INNER + [None], [INNER], TREES, OUTER,
            [list(tree) for tree in INNER], [("r", "p"), ("q", "s")], [("p", "r"), ("q", "r")], [("p", "r"), ("p", "s")],
            [("p", "q"), ("r", "s")], [("p", "r"), ("q", "t")], [("p", "r"), ("q",)], [("p", "r"), ("q", "z")], {"p": 1},
            [("p", "r"), ("q", None)], [("p", "r"), Prickly()], set(INNER), ("p", "r"), "pr"]
        for at, thing in enumerate(wrong):
            with self.subTest(at=at):
                refused(self, NoTree, together, GLUED, "a", LOT, OUTER, thing, "m")
                refused(self, NoTree, together, GLUED, "a", LOT, thing, thing, "m")
                self.assertEqual(together(GLUED, "a", LOT, OUTER, INNER, "m"), TREES)

    def test_other_than_as_many(self):
        # Shares of both webs, but fewer than ties lead into the lot.
        refused(self, NoTree, together, GLUED, "a", LOT, OUTER[:1], INNER[:1], "m")
        refused(self, NoTree, together, GLUED, "a", LOT, [], [], "m")
        refused(self, NoTree, together, GLUED, "a", LOT, OUTER, INNER[:1], "m")
        refused(self, NoTree, together, GLUED, "a", LOT, OUTER[:1], INNER, "m")
        outer = shares(shrunk(GLUED, ("d",), "m"), "a", 2)
        inner = shares(within(GLUED, ("d",), "m"), "m", 2)
        refused(self, NoTree, together, GLUED, "a", ("d",), outer, inner, "m")
        refused(self, NoTree, together, GLUED, "a", ("d",), outer, shares(within(GLUED, ("d",), "m"), "m", 3), "m")

    def test_of_the_root_alone(self):
        for lot in [(), ("a",), ("b",)]:
            refused(self, NoLot, together, ALONE, "a", lot, [], [], "m")
            refused(self, NoLot, parted, ALONE, "a", lot, [])


if __name__ == "__main__":
    unittest.main()
