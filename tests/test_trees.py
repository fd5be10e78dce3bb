import itertools
import unittest

from rootshares.errors import NoPlace, NoTie, NoTree, NoWeb
from rootshares.trees import below, exchanged, is_tree, way_in
from things import ALONE, APART, NO_NAMES, NO_WEBS, ODD, TALL, WEB, Prickly, refused, some_webs, trees_of, walk_back

TALL_TREE = ("ab", "ae", "bc", "cd")

NO_TREES = ODD + [
    "ab", "", "ab ac bd", 3, WEB, WEB[1], WEB[0], ("a",), ("a", "b"),
    # a tie too few or too many, to the root, two to one place
    (), ("ab",), ("ab", "ac"), ("ab", "bd"), ("ab", "ac", "bc", "bd"), ("ab", "ac", "bd", "cd"), ("ab", "ac", "bd", "da"),
    ("ab", "ac", "da"), ("a", "ab", "ac"), ("a", "ab", "bd"), ("ab", "ac", "bc"), ("a", "ab", "ac", "bd"),
    # a ring that is not reached from the root
    ("ac", "bd", "db"), ("bc", "bd", "db"), ("bc", "cd", "db"),
    # twice, out of order, a list, other kinds
    ("ab", "ac", "bd", "bd"), ("ab", "ab", "bd"), ("ac", "ab", "bd"), ("ab", "bd", "ac"), ["ab", "ac", "bd"],
    {"ab", "ac", "bd"}, frozenset({"ab", "ac", "bd"}), {"ab": 1, "ac": 1, "bd": 1}, (("ab", "ac", "bd"),),
    # names of no tie, things that are no names
    ("ab", "ac", "bx"), ("ab", "ac", "d"), ("aa", "ac", "bd"), ("ab", "ac", "bd", "zz"), ("ab", "ac", None),
    ("ab", "ac", 1), ("ab", "ac", Prickly()), (Prickly(), "ac", "bd"), ("ab", "ac", ["bd"]), ("ab", "ac", b"bd"),
    ("ab", "ac", ("bd",)), (("ab", "a", "b"), ("ac", "a", "c"), ("bd", "b", "d")), ("ab", "ac", True),
]


def each_tree():
    for web in some_webs() + [TALL]:
        for root in web[0]:
            for tree in trees_of(web, root):
                yield web, root, tree


class IsTree(unittest.TestCase):
    def test_all_choices_of_ties(self):
        many = 0
        for web in some_webs() + [TALL]:
            names = [row[0] for row in web[1]]
            for root in web[0]:
                trees = trees_of(web, root)
                many += len(trees)
                for size in range(len(names) + 1):
                    for chosen in itertools.combinations(names, size):
                        self.assertIs(is_tree(web, root, chosen), chosen in trees)
        self.assertGreater(many, 100)

    def test_trees(self):
        for tree in [("ab", "ac", "bd"), ("a", "ac", "bd"), ("ab", "bc", "cd"), ("ac", "cd", "db"), ("a", "bc", "bd")]:
            self.assertIs(is_tree(WEB, "a", tree), True)
        self.assertIs(is_tree(WEB, "d", ("ac", "da", "db")), True)

    def test_of_the_root_alone(self):
        self.assertIs(is_tree(ALONE, "a", ()), True)
        for thing in NO_NAMES:
            if not isinstance(thing, tuple) or len(thing) > 0:
                self.assertIs(is_tree(ALONE, "a", thing), False)

    def test_where_there_is_none(self):
        self.assertIs(is_tree(APART, "a", ()), False)

    def test_no_trees(self):
        for at, thing in enumerate(NO_TREES):
            with self.subTest(at=at):
                self.assertIs(is_tree(WEB, "a", thing), False)

    def test_a_tree_from_another_root(self):
        self.assertIs(is_tree(WEB, "a", ("ac", "da", "db")), False)

    def test_no_web(self):
        for thing in NO_WEBS:
            refused(self, NoWeb, is_tree, thing, "a", ())
            refused(self, NoWeb, is_tree, thing, thing, thing)

    def test_no_place(self):
        for thing in NO_NAMES + ["e", "ab"]:
            refused(self, NoPlace, is_tree, WEB, thing, ("ab", "ac", "bd"))
            refused(self, NoPlace, is_tree, WEB, thing, thing)
        self.assertIs(is_tree(WEB, "a", ("ab", "ac", "bd")), True)


class WayIn(unittest.TestCase):
    def test_of_the_root(self):
        for web, root, tree in each_tree():
            self.assertEqual(way_in(web, root, tree, root), ())
        self.assertEqual(way_in(ALONE, "a", (), "a"), ())

    def test_of_each_place(self):
        told = [way_in(TALL, "a", TALL_TREE, place) for place in "abcde"]
        self.assertEqual(told, [(), ("ab",), ("ab", "bc"), ("ab", "bc", "cd"), ("ae",)])

    def test_not_sorted_but_in_order(self):
        web = (("a", "b", "c"), (("p", "b", "c"), ("q", "a", "b")))
        self.assertEqual(way_in(web, "a", ("p", "q"), "c"), ("q", "p"))

    def test_of_all_trees(self):
        for web, root, tree in each_tree():
            for place in web[0]:
                told = way_in(web, root, tree, place)
                self.assertEqual(told, walk_back(web, root, tree, place))
                self.assertIsInstance(told, tuple)

    def test_no_web(self):
        for thing in NO_WEBS:
            refused(self, NoWeb, way_in, thing, "a", (), "a")
            refused(self, NoWeb, way_in, thing, thing, thing, thing)

    def test_no_place(self):
        tree = ("ab", "ac", "bd")
        for thing in NO_NAMES + ["e", "ab"]:
            refused(self, NoPlace, way_in, WEB, thing, tree, "a")
            refused(self, NoPlace, way_in, WEB, "a", tree, thing)
            refused(self, NoPlace, way_in, WEB, thing, thing, "a")
            refused(self, NoPlace, way_in, WEB, "a", ["ab"], thing)

    def test_no_tree(self):
        for at, thing in enumerate(NO_TREES):
            with self.subTest(at=at):
                refused(self, NoTree, way_in, WEB, "a", thing, "a")
                refused(self, NoTree, way_in, WEB, "a", thing, "d")
        self.assertEqual(way_in(WEB, "a", ("ab", "ac", "bd"), "d"), ("ab", "bd"))


class Below(unittest.TestCase):
    def test_of_each_tie(self):
        told = [below(TALL, "a", TALL_TREE, tie) for tie in TALL_TREE]
        self.assertEqual(told, [("b", "c", "d"), ("e",), ("c", "d"), ("d",)])

    def test_sorted(self):
        web = (("a", "b", "c"), (("p", "c", "a"), ("q", "a", "b")))
        self.assertEqual(below(web, "c", ("p", "q"), "p"), ("a", "b"))
        web = (("a", "b", "c"), (("p", "a", "c"), ("q", "c", "b")))
        self.assertEqual(below(web, "a", ("p", "q"), "p"), ("b", "c"))

    def test_of_all_trees(self):
        for web, root, tree in each_tree():
            for tie in tree:
                wanted = [place for place in web[0] if tie in walk_back(web, root, tree, place)]
                told = below(web, root, tree, tie)
                self.assertEqual(told, tuple(wanted))
                self.assertIsInstance(told, tuple)

    def test_no_web(self):
        for thing in NO_WEBS:
            refused(self, NoWeb, below, thing, "a", (), "ab")
            refused(self, NoWeb, below, thing, thing, thing, thing)

    def test_no_place(self):
        for thing in NO_NAMES + ["e", "ab"]:
            refused(self, NoPlace, below, WEB, thing, ("ab", "ac", "bd"), "ab")
            refused(self, NoPlace, below, WEB, thing, thing, thing)

    def test_no_tree(self):
        for at, thing in enumerate(NO_TREES):
            with self.subTest(at=at):
                refused(self, NoTree, below, WEB, "a", thing, "ab")
                refused(self, NoTree, below, WEB, "a", thing, thing)

    def test_no_tie(self):
        tree = ("ab", "ac", "bd")
        for at, thing in enumerate(NO_NAMES + ["b", "zz", ("ab",), "a", "bc", "cd", "da", "db"]):
            with self.subTest(at=at):
                refused(self, NoTie, below, WEB, "a", tree, thing)
                self.assertEqual(below(WEB, "a", tree, "ab"), ("b", "d"))
        refused(self, NoTie, below, ALONE, "a", (), "a")


class Exchanged(unittest.TestCase):
    def test_by_a_tie_that_the_tree_has(self):
        for web, root, tree in each_tree():
            for tie in tree:
                self.assertEqual(exchanged(web, root, tree, tie), tree)

    def test_by_a_tie_to_the_root(self):
        self.assertIs(exchanged(TALL, "a", TALL_TREE, "ca"), None)
        self.assertIs(exchanged(WEB, "a", ("ab", "ac", "bd"), "da"), None)

    def test_by_a_tie_from_a_place_below(self):
        self.assertIs(exchanged(TALL, "a", TALL_TREE, "db"), None)
        self.assertIs(exchanged(WEB, "a", ("ab", "ac", "bd"), "db"), None)

    def test_by_a_tie_that_makes_a_tree(self):
        self.assertEqual(exchanged(TALL, "a", TALL_TREE, "ac"), ("ab", "ac", "ae", "cd"))
        self.assertEqual(exchanged(TALL, "a", TALL_TREE, "ec"), ("ab", "ae", "cd", "ec"))
        self.assertEqual(exchanged(TALL, "a", TALL_TREE, "xab"), ("ae", "bc", "cd", "xab"))
        self.assertEqual(exchanged(TALL, "a", ("ab", "ac", "ae", "cd"), "bc"), TALL_TREE)

    def test_of_all_trees(self):
        for web, root, tree in each_tree():
            for name, start, end in web[1]:
                rest = [tie for tie in tree if (end,) != tuple([row[2] for row in web[1] if row[0] == tie])]
                wanted = tuple(sorted(set(rest + [name])))
                told = exchanged(web, root, tree, name)
                self.assertEqual(told, wanted if wanted in trees_of(web, root) else None)

    def test_the_tree_stays(self):
        tree = ("ab", "ac", "bd")
        exchanged(WEB, "a", tree, "cd")
        self.assertEqual(tree, ("ab", "ac", "bd"))
        self.assertEqual(exchanged(WEB, "a", tree, "cd"), ("ab", "ac", "cd"))

    def test_no_web(self):
        for thing in NO_WEBS:
            refused(self, NoWeb, exchanged, thing, "a", (), "ab")
            refused(self, NoWeb, exchanged, thing, thing, thing, thing)

    def test_no_place(self):
        for thing in NO_NAMES + ["e", "ab"]:
            refused(self, NoPlace, exchanged, WEB, thing, ("ab", "ac", "bd"), "ab")
            refused(self, NoPlace, exchanged, WEB, thing, thing, thing)

    def test_no_tree(self):
        for at, thing in enumerate(NO_TREES):
            with self.subTest(at=at):
                refused(self, NoTree, exchanged, WEB, "a", thing, "cd")
                refused(self, NoTree, exchanged, WEB, "a", thing, thing)

    def test_no_tie(self):
        tree = ("ab", "ac", "bd")
        for at, thing in enumerate(NO_NAMES + ["b", "zz", ("ab",)]):
            with self.subTest(at=at):
                refused(self, NoTie, exchanged, WEB, "a", tree, thing)
                self.assertEqual(exchanged(WEB, "a", tree, "a"), ("a", "ac", "bd"))
        refused(self, NoTie, exchanged, ALONE, "a", (), "a")


if __name__ == "__main__":
    unittest.main()
