import random
import unittest

from rootshares.errors import NoNumber, NoPlace, NoWeb, TooFew
from rootshares.shares import least, shares
from things import (ALONE, APART, NO_NAMES, NO_WEBS, NO_WHOLES, TALL, WEB, chance_web, chance_webs, doubled, into,
                    lots_without, refused, renamed, share_fault, some_names, some_webs, told_few, trees_of, turned_names)

NO_NUMBERS = NO_WHOLES + [-1, -2, 7, 8, 40, -(10 ** 28), 10 ** 28]
# Two shares, but not where the first one is the tree of the first ties: (ab, ac) leaves only bc and cb.
CHOICE = (("a", "b", "c"), (("ab", "a", "b"), ("ac", "a", "c"), ("bc", "b", "c"), ("cb", "c", "b")))


def full_web(places, times):
    """A web with so many ties from each place to each later one, and one to each earlier one."""
    names = tuple("abcdefgh"[:places])
    rows = []
    for a in names:
        for b in names:
            for step in range(times if a < b else 1):
                if a != b and b != names[0]:
                    rows.append((a + b + "xyzuvw"[step], a, b))
    return (names, tuple(sorted(rows)))


def made_of_trees(chance, places, trees, more):
    """A web that is so many trees from its first place, laid together, and some more ties; with the trees' root."""
    names = tuple("abcdefgh"[:places])
    ends = []
    for step in range(trees):
        found = [names[0]]
        for place in chance.sample(names[1:], places - 1):
            ends.append((chance.choice(found), place))
            found.append(place)
    ends += [tuple(chance.sample(names, 2)) for step in range(more)]
    chance.shuffle(ends)
    return (names, tuple([(name,) + pair for name, pair in zip(some_names(len(ends)), ends)]))


def tried_webs():
    return some_webs() + [CHOICE, TALL] + chance_webs(12, 40, 6, 20)


class Least(unittest.TestCase):
    def test_of_the_root_alone(self):
        self.assertIs(least(ALONE, "a"), None)

    def test_where_there_is_just_one_lot(self):
        self.assertEqual(least(APART, "a"), (0, ("b",)))
        self.assertEqual(least(APART, "b"), (0, ("a",)))
        self.assertEqual(least(TALL, "a")[0], 1)
        # Into each single place lead two ties or more, into both together one.
        both = (("a", "b", "c"), (("p", "a", "c"), ("q", "b", "c"), ("r", "c", "b"), ("s", "c", "b")))
        self.assertEqual(least(both, "a"), (1, ("b", "c")))
        self.assertEqual(least(both, "b"), (0, ("a",)))

    def test_all_lots(self):
        for web in tried_webs() + chance_webs(13, 10, 8, 40):
            for root in web[0]:
                lots = lots_without(web, root)
                told = least(web, root)
                if not lots:
                    self.assertIs(told, None)
                    continue
                self.assertIsInstance(told, tuple)
                many, lot = told
                self.assertEqual(many, min([into(web, each) for each in lots]))
                self.assertIn(lot, lots)
                self.assertEqual(into(web, lot), many)
                self.assertEqual(least(web, root), told)

    def test_ties_doubled_and_renamed(self):
        for web in tried_webs():
            places, ties = turned_names(web)
            for root in web[0]:
                told = least(web, root)
                if told is not None:
                    self.assertEqual(least(doubled(web), root)[0], 2 * told[0])
                    self.assertEqual(least(renamed(web, places, ties), places[root])[0], told[0])

    def test_refusals(self):
        before = least(WEB, "a")
        for thing in NO_WEBS:
            refused(self, NoWeb, least, thing, "a")
            refused(self, NoWeb, least, thing, thing)
        for thing in NO_NAMES + ["e", "ab"]:
            refused(self, NoPlace, least, WEB, thing)
            self.assertEqual(least(WEB, "a"), before)


class Shares(unittest.TestCase):
    def tried(self, web, root, most):
        """Each number of trees: told where there are so many, else refused with such a lot."""
        for many in range(7):
            if many <= most:
                told = shares(web, root, many)
                self.assertEqual(share_fault(web, [root] * many, told), "", (web, root, told))
                self.assertEqual(shares(web, root, many), told)
                continue
            lot = told_few(shares, web, root, many)
            self.assertIn(lot, lots_without(web, root))
            self.assertIsInstance(lot, tuple)
            self.assertLess(into(web, lot), many)
            self.assertEqual(told_few(shares, web, root, many), lot)

    def test_of_the_root_alone(self):
        for many in range(7):
            self.assertEqual(shares(ALONE, "a", many), [()] * many)

    def test_no_trees(self):
        for web in tried_webs():
            told = shares(web, web[0][0], 0)
            self.assertEqual(told, [])
            self.assertIsInstance(told, list)

    def test_one_tree(self):
        for web in tried_webs():
            for root in web[0]:
                if trees_of(web, root):
                    self.assertIn(shares(web, root, 1)[0], trees_of(web, root))
                else:
                    self.assertEqual(into(web, told_few(shares, web, root, 1)), 0)

    def test_no_tie_at_all(self):
        self.assertEqual(told_few(shares, APART, "a", 1), ("b",))
        self.assertEqual(told_few(shares, APART, "a", 6), ("b",))

    def test_a_tree_that_must_leave_ties(self):
        told = shares(CHOICE, "a", 2)
        self.assertEqual(sorted(told), [("ab", "bc"), ("ac", "cb")])

    def test_two_places(self):
        web = (("a", "b"), tuple([(name, "a", "b") for name in "pqrstu"]))
        for many in range(7):
            self.assertEqual(share_fault(web, ["a"] * many, shares(web, "a", many)), "")
        self.assertEqual(sorted(shares(web, "a", 6)), [(name,) for name in "pqrstu"])
        self.assertEqual(told_few(shares, web, "b", 1), ("a",))
        self.assertEqual(told_few(shares, (web[0], web[1][1:]), "a", 6), ("b",))

    def test_held_against_all_lots(self):
        for web in tried_webs():
            for root in web[0]:
                counts = [into(web, lot) for lot in lots_without(web, root)]
                self.tried(web, root, min(counts + [6]))

    def test_eight_places_and_forty_ties(self):
        chance = random.Random(14)
        for step in range(6):
            web = chance_web(chance, 8, 40)
            self.tried(web, "a", min([into(web, lot) for lot in lots_without(web, "a")]))

    def test_webs_made_of_trees(self):
        chance = random.Random(15)
        for places, trees, more in [(8, 5, 0), (8, 5, 5), (8, 4, 6), (8, 3, 0), (7, 6, 0), (7, 6, 4), (6, 6, 3), (5, 6, 0)]:
            for step in range(3):
                web = made_of_trees(chance, places, trees, more)
                for many in range(trees + 1):
                    self.assertEqual(share_fault(web, ["a"] * many, shares(web, "a", many)), "")
                counts = [into(web, lot) for lot in lots_without(web, "a")]
                if min(counts) == trees < 6:
                    self.assertLess(into(web, told_few(shares, web, "a", trees + 1)), trees + 1)

    def test_six_trees_of_a_greater_web(self):
        web = full_web(6, 6)
        self.tried(web, "a", 6)

    def test_renamed(self):
        for web in tried_webs():
            places, ties = turned_names(web)
            other = renamed(web, places, ties)
            for root in web[0]:
                for many in (1, 2):
                    few = told_few(shares, web, root, many) is None
                    self.assertEqual(told_few(shares, other, places[root], many) is None, few)

    def test_a_told_list_is_the_askers_own(self):
        before = shares(CHOICE, "a", 2)
        told = shares(CHOICE, "a", 2)
        told[0] = None
        told.append(())
        self.assertEqual(shares(CHOICE, "a", 2), before)

    def test_no_web(self):
        for thing in NO_WEBS:
            refused(self, NoWeb, shares, thing, "a", 1)
            refused(self, NoWeb, shares, thing, thing, thing)

    def test_no_place(self):
        for thing in NO_NAMES + ["e", "ab"]:
            refused(self, NoPlace, shares, WEB, thing, 1)
            refused(self, NoPlace, shares, WEB, thing, 9)
            refused(self, NoPlace, shares, ALONE, "b", thing)

    def test_no_number(self):
        before = shares(CHOICE, "a", 2)
        for at, thing in enumerate(NO_NUMBERS):
            with self.subTest(at=at):
                refused(self, NoNumber, shares, WEB, "a", thing)
                refused(self, NoNumber, shares, ALONE, "a", thing)
                # NoNumber goes ahead of TooFew.
                refused(self, NoNumber, shares, APART, "a", thing)
                self.assertEqual(shares(CHOICE, "a", 2), before)

    def test_too_few(self):
        before = shares(CHOICE, "a", 2)
        for many in range(3, 7):
            refused(self, TooFew, shares, CHOICE, "a", many)
            self.assertEqual(shares(CHOICE, "a", 2), before)


if __name__ == "__main__":
    unittest.main()
