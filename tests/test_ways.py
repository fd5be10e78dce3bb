import unittest

from rootshares.errors import NoPlace, NoWeb
from rootshares.ways import ways
from things import (ALONE, APART, NO_NAMES, NO_WEBS, TALL, WEB, chance_webs, doubled, into, is_way, lots_of, refused,
                    renamed, some_webs, turned_names)

# Of the ways from a to f a short one, by b and e, must give way to two others.
GIVE = (
    ("a", "b", "c", "d", "e", "f"),
    (("ab", "a", "b"), ("ac", "a", "c"), ("bd", "b", "d"), ("be", "b", "e"), ("ce", "c", "e"), ("df", "d", "f"),
     ("ef", "e", "f")))
# Here three short ways and a crossing must give way more than once.
TWIST = (
    tuple("abcdefgh"),
    (("ab", "a", "b"), ("ac", "a", "c"), ("ad", "a", "d"), ("be", "b", "e"), ("bf", "b", "f"), ("ce", "c", "e"),
     ("df", "d", "f"), ("dg", "d", "g"), ("eh", "e", "h"), ("fh", "f", "h"), ("gh", "g", "h")))
MANY = (("a", "b", "c"), (("p", "a", "b"), ("q", "a", "b"), ("r", "b", "a"), ("s", "a", "c"), ("t", "c", "b")))


def fault_of(web, a, b, told):
    """What is wrong with told ways, held against all lots; "" where nothing is."""
    if not isinstance(told, tuple) or len(told) != 2 or not isinstance(told[0], list):
        return "no tuple (ways, lot)"
    found, lot = told
    if not all([is_way(web, a, b, way) for way in found]):
        return "one is no way"
    ties = [tie for way in found for tie in way]
    if len(ties) != len(set(ties)):
        return "a tie is in two"
    if not isinstance(lot, tuple) or lot not in lots_of(web) or a in lot or b not in lot:
        return "no lot with the one and without the other"
    if into(web, lot) != len(found):
        return "not just as many ties lead into the lot"
    fewest = min([into(web, each) for each in lots_of(web) if b in each and a not in each])
    return "" if fewest == len(found) else "not as many as can be"


class Ways(unittest.TestCase):
    def tried(self, web):
        for a in web[0]:
            for b in web[0]:
                if a != b:
                    told = ways(web, a, b)
                    self.assertEqual(fault_of(web, a, b, told), "", (web, a, b, told))
                    self.assertEqual(ways(web, a, b), told)

    def test_none_at_all(self):
        self.assertEqual(ways(APART, "a", "b"), ([], ("b",)))
        self.assertEqual(ways(APART, "b", "a"), ([], ("a",)))
        self.assertEqual(ways((("a", "b", "c"), (("p", "c", "b"),)), "a", "b"), ([], ("b", "c")))
        self.assertEqual(ways((("a", "b", "c"), (("p", "b", "a"), ("q", "a", "c"))), "a", "b"), ([], ("b",)))

    def test_just_one(self):
        self.assertEqual(ways((("a", "b"), (("p", "a", "b"), ("q", "b", "a"))), "a", "b"), ([("p",)], ("b",)))
        found, lot = ways((("a", "b", "c"), (("p", "a", "b"), ("q", "b", "c"))), "a", "c")
        self.assertEqual(found, [("p", "q")])
        self.assertIn(lot, [("c",), ("b", "c")])

    def test_several_ties_between_the_two(self):
        found, lot = ways(MANY, "a", "b")
        self.assertEqual(sorted(found), [("p",), ("q",), ("s", "t")])
        self.assertEqual(ways(MANY, "b", "a")[0], [("r",)])
        self.tried(MANY)

    def test_ways_that_must_give_way(self):
        found, lot = ways(GIVE, "a", "f")
        self.assertEqual(sorted(found), [("ab", "bd", "df"), ("ac", "ce", "ef")])
        found, lot = ways(TWIST, "a", "h")
        self.assertEqual(len(found), 3)
        self.tried(GIVE)
        self.tried(TWIST)

    def test_small_webs(self):
        for web in some_webs() + [MANY, TALL]:
            self.tried(web)

    def test_greater_webs(self):
        for web in chance_webs(10, 60, 6, 16) + chance_webs(11, 6, 8, 40):
            self.tried(web)

    def test_a_ring_beside_the_way(self):
        rows = (("p", "a", "b"), ("q", "b", "c"), ("r", "c", "b"), ("s", "b", "d"), ("t", "c", "d"))
        self.tried((("a", "b", "c", "d"), rows))

    def test_ties_doubled_and_renamed(self):
        for web in some_webs() + [GIVE, TALL]:
            places, ties = turned_names(web)
            for a in web[0]:
                for b in web[0]:
                    if a != b:
                        many = len(ways(web, a, b)[0])
                        self.assertEqual(len(ways(doubled(web), a, b)[0]), 2 * many)
                        self.assertEqual(len(ways(renamed(web, places, ties), places[a], places[b])[0]), many)

    def test_a_told_list_is_the_askers_own(self):
        before = ways(MANY, "a", "b")
        told = ways(MANY, "a", "b")
        told[0].pop()
        told[0][0] = "z"
        self.assertEqual(ways(MANY, "a", "b"), before)

    def test_no_web(self):
        for thing in NO_WEBS:
            refused(self, NoWeb, ways, thing, "a", "b")
            refused(self, NoWeb, ways, thing, thing, thing)

    def test_no_place(self):
        before = ways(WEB, "a", "d")
        for thing in NO_NAMES + ["e", "ab"]:
            refused(self, NoPlace, ways, WEB, thing, "a")
            refused(self, NoPlace, ways, WEB, "a", thing)
            refused(self, NoPlace, ways, WEB, thing, thing)
            self.assertEqual(ways(WEB, "a", "d"), before)

    def test_both_places_one(self):
        for web in some_webs():
            for place in web[0]:
                refused(self, NoPlace, ways, web, place, place)
        refused(self, NoPlace, ways, ALONE, "a", "a")


if __name__ == "__main__":
    unittest.main()
