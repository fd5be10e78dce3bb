import itertools
import random
import unittest

from rootshares.errors import NoLot, NoRoots, NoWeb, TooFew
from rootshares.roots import lack, shares_from
from things import (ALONE, APART, NO_WEBS, ODD, TALL, WEB, Prickly, chance_webs, into, lots_of, refused, renamed,
                    share_fault, some_names, some_webs, told_few, turned_names)

NO_ROOTS = ODD + [
    "a", "abc", "aaaaaa", ["a"], ["a", "b"], [], {"a"}, {"a": "b"}, ("e",), ("a", "e"), ("ab",), ("a", "ab"), ("a", None),
    ("a", 1), ("a", True), ("a", Prickly()), (Prickly(), "a"), ("a", ("b",)), ("a", ["b"]), ("a", b"b"), (("a", "b"),),
    ("A",), ("",), ("a", "b", "c", "d", "a", "b", "c"), ("a",) * 7, ("a",) * 8, ("a",) * 40, WEB, WEB[1],
]
NO_LOTS = ODD + [
    "a", "ab", (), ("e",), ("a", "e"), ("b", "a"), ("a", "a"), ["a", "b"], ("ab",), ("a", None), ("a", Prickly()),
    ("a", ("b",)), ("a", "c", "b"), {"a"}, {"a": "b"}, WEB]
# Just enough for a tree from a and one from c, in one way alone.
CROSSED = (("a", "b", "c"), (("ab", "a", "b"), ("ba", "b", "a"), ("bc", "b", "c"), ("cb", "c", "b")))


def need(roots, lot):
    return len(roots) - sum([roots.count(place) for place in lot])


def some_roots(chance, web):
    """Tuples of none to six places of a web."""
    return [tuple([chance.choice(web[0]) for step in range(many)]) for many in range(7)]


def laid_together(chance, places, roots, more):
    """A web made of a tree from each root, and some more ties."""
    names = tuple("abcdefgh"[:places])
    ends = [tuple(chance.sample(names, 2)) for step in range(more)]
    for root in roots:
        found = [root]
        others = [place for place in names if place != root]
        for place in chance.sample(others, len(others)):
            ends.append((chance.choice(found), place))
            found.append(place)
    chance.shuffle(ends)
    return (names, tuple([(name,) + pair for name, pair in zip(some_names(len(ends)), ends)]))


class Lack(unittest.TestCase):
    def test_no_roots(self):
        self.assertEqual(lack(WEB, (), ("a",)), -1)
        self.assertEqual(lack(WEB, (), ("b",)), -3)
        self.assertEqual(lack(WEB, (), WEB[0]), 0)

    def test_below_0_and_0_and_above_0(self):
        self.assertEqual(lack(WEB, ("a",), ("b",)), -2)
        self.assertEqual(lack(WEB, ("a", "b"), ("c",)), 0)
        self.assertEqual(lack(WEB, ("a", "b", "b"), ("c",)), 1)
        self.assertEqual(lack(WEB, ("a",) * 6, ("d",)), 4)
        self.assertEqual(lack(APART, ("a",) * 6, ("b",)), 6)

    def test_lots_with_all_some_none_of_them(self):
        roots = ("b", "a", "b", "c")
        self.assertEqual(lack(WEB, roots, ("d",)), 4 - 2)
        self.assertEqual(lack(WEB, roots, ("b",)), 2 - 3)
        self.assertEqual(lack(WEB, roots, ("a", "b")), 1 - 2)
        self.assertEqual(lack(WEB, roots, ("a", "b", "c")), 0 - 2)
        self.assertEqual(lack(WEB, roots, ("a", "d")), 3 - 2)

    def test_all_lots(self):
        chance = random.Random(20)
        for web in some_webs() + chance_webs(21, 10, 8, 40):
            for roots in some_roots(chance, web):
                for lot in lots_of(web):
                    told = lack(web, roots, lot)
                    self.assertEqual(told, need(roots, lot) - into(web, lot))
                    self.assertEqual(told.__class__, int)

    def test_of_the_root_alone(self):
        self.assertEqual(lack(ALONE, ("a",) * 6, ("a",)), 0)

    def test_no_web(self):
        for thing in NO_WEBS:
            refused(self, NoWeb, lack, thing, ("a",), ("a",))
            refused(self, NoWeb, lack, thing, thing, thing)

    def test_no_roots_of_anything(self):
        for at, thing in enumerate(NO_ROOTS):
            with self.subTest(at=at):
                refused(self, NoRoots, lack, WEB, thing, ("a",))
                # NoRoots goes ahead of NoLot.
                refused(self, NoRoots, lack, WEB, thing, thing)
                self.assertEqual(lack(WEB, ("a",), ("b",)), -2)

    def test_no_lot(self):
        for at, thing in enumerate(NO_LOTS):
            with self.subTest(at=at):
                refused(self, NoLot, lack, WEB, ("a",), thing)
                refused(self, NoLot, lack, WEB, (), thing)
                self.assertEqual(lack(WEB, ("a",), ("b",)), -2)


class SharesFrom(unittest.TestCase):
    def tried(self, web, roots):
        """Told where no lot lacks, else refused with a lot that does; whether it is told."""
        wanting = [lot for lot in lots_of(web) if need(roots, lot) > into(web, lot)]
        if wanting:
            lot = told_few(shares_from, web, roots)
            self.assertIn(lot, wanting)
            self.assertIsInstance(lot, tuple)
            self.assertEqual(told_few(shares_from, web, roots), lot)
            return False
        told = shares_from(web, roots)
        self.assertEqual(share_fault(web, roots, told), "", (web, roots, told))
        self.assertEqual(shares_from(web, roots), told)
        return True

    def test_no_roots(self):
        for web in some_webs():
            told = shares_from(web, ())
            self.assertEqual(told, [])
            self.assertIsInstance(told, list)

    def test_each_from_its_own_root(self):
        self.assertEqual(shares_from(CROSSED, ("a", "c")), [("ab", "bc"), ("ba", "cb")])
        self.assertEqual(shares_from(CROSSED, ("c", "a")), [("ba", "cb"), ("ab", "bc")])

    def test_alike_roots(self):
        web = (("a", "b"), (("p", "a", "b"), ("q", "a", "b"), ("r", "b", "a"), ("s", "b", "a")))
        told = shares_from(web, ("a", "b", "a", "b"))
        self.assertIn(told[0::2], [[("p",), ("q",)], [("q",), ("p",)]])
        self.assertIn(told[1::2], [[("r",), ("s",)], [("s",), ("r",)]])
        self.assertEqual(told_few(shares_from, web, ("a", "a", "a")), ("b",))
        self.assertEqual(told_few(shares_from, web, ("b", "b", "a", "b")), ("a",))

    def test_of_one_place_alone(self):
        for many in range(7):
            self.assertEqual(shares_from(ALONE, ("a",) * many), [()] * many)

    def test_all_roots_of_small_webs(self):
        told = 0
        for web in some_webs() + [TALL]:
            for many in range(4):
                for roots in itertools.product(web[0], repeat=many):
                    told += self.tried(web, roots)
        self.assertGreater(told, 200)

    def test_greater_webs(self):
        chance = random.Random(22)
        for web in chance_webs(23, 30, 8, 40):
            for roots in some_roots(chance, web):
                self.tried(web, roots)

    def test_webs_made_of_trees(self):
        chance = random.Random(24)
        for places in (2, 4, 6, 7, 8):
            for more in (0, 0, 2):
                for many in (2, 4, 5, 6):
                    roots = tuple([chance.choice("abcdefgh"[:places]) for step in range(many)])
                    web = laid_together(chance, places, roots, more)
                    self.assertTrue(self.tried(web, roots))
                    order = tuple(chance.sample(roots, many))
                    self.assertTrue(self.tried(web, order))

    def test_six_roots_of_eight_places(self):
        chance = random.Random(25)
        for roots in [tuple("abcdef"), tuple("hhgabb"), ("c",) * 6]:
            web = laid_together(chance, 8, roots, 0)
            self.assertTrue(self.tried(web, roots))
            for row in web[1][::7]:
                left = (web[0], tuple([other for other in web[1] if other != row]))
                self.assertFalse(self.tried(left, roots))

    def test_renamed(self):
        for web in some_webs() + [TALL]:
            places, ties = turned_names(web)
            other = renamed(web, places, ties)
            for roots in itertools.product(web[0], repeat=2):
                few = told_few(shares_from, web, roots) is None
                turned = tuple([places[root] for root in roots])
                self.assertEqual(told_few(shares_from, other, turned) is None, few)

    def test_a_told_list_is_the_askers_own(self):
        told = shares_from(CROSSED, ("a", "c"))
        told[0] = None
        told.pop()
        self.assertEqual(shares_from(CROSSED, ("a", "c")), [("ab", "bc"), ("ba", "cb")])

    def test_no_web(self):
        for thing in NO_WEBS:
            refused(self, NoWeb, shares_from, thing, ("a",))
            refused(self, NoWeb, shares_from, thing, thing)

    def test_no_roots_of_anything(self):
        for at, thing in enumerate(NO_ROOTS):
            with self.subTest(at=at):
                refused(self, NoRoots, shares_from, WEB, thing)
                self.assertEqual(shares_from(CROSSED, ("a", "c")), [("ab", "bc"), ("ba", "cb")])
        # NoRoots goes ahead of TooFew.
        refused(self, NoRoots, shares_from, APART, ("a", "c"))
        refused(self, NoRoots, shares_from, APART, ("a",) * 7)

    def test_too_few(self):
        refused(self, TooFew, shares_from, CROSSED, ("a", "a"))
        refused(self, TooFew, shares_from, APART, ("a",))
        self.assertEqual(shares_from(CROSSED, ("a", "c")), [("ab", "bc"), ("ba", "cb")])


if __name__ == "__main__":
    unittest.main()
