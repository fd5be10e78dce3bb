import itertools
import unittest

from rootshares.errors import NoNumber, NoPlace, NoWeb
from rootshares.mends import mended
from rootshares.shares import shares
from things import (ALONE, APART, NO_NAMES, NO_WEBS, NO_WHOLES, TALL, WEB, chance_webs, into, lots_without, refused,
                    renamed, share_fault, some_webs, turned_names)

NO_NUMBERS = NO_WHOLES + [-1, -2, 7, 8, 40, -(10 ** 28), 10 ** 28]


def with_more(web, root, places):
    """A web with a tie more from the root to each of some places."""
    more = [("zz" + "abcdefgh"[at // 8] + "abcdefgh"[at % 8], root, place) for at, place in enumerate(places)]
    return (web[0], tuple(sorted(list(web[1]) + more)))


def fault_of(web, root, many, told):
    """What is wrong with what is told of a mend; "" where nothing is."""
    if not isinstance(told, tuple) or len(told) != 2 or not isinstance(told[0], tuple) or not isinstance(told[1], list):
        return "no tuple (places, lots)"
    places, lots = told
    if list(places) != sorted(places) or not all([place in web[0] and place != root for place in places]):
        return "no sorted tuple of places without the root"
    if not all([isinstance(lot, tuple) and lot in lots_without(web, root) for lot in lots]):
        return "no lots without the root"
    held = [place for lot in lots for place in lot]
    if len(held) != len(set(held)):
        return "two lots have a place in common"
    short = [many - into(web, lot) for lot in lots]
    if not all([one > 0 for one in short]):
        return "a lot is not short of anything"
    if sum(short) != len(places):
        return "the lots are not short of as many as places are told"
    whole = with_more(web, root, places)
    if min([into(whole, lot) for lot in lots_without(web, root)] + [many]) < many:
        return "there are not so many shares with these ties more"
    return ""


class Mended(unittest.TestCase):
    def tried(self, web, root):
        for many in range(7):
            told = mended(web, root, many)
            self.assertEqual(fault_of(web, root, many, told), "", (web, root, many, told))
            lacking = [lot for lot in lots_without(web, root) if into(web, lot) < many]
            self.assertEqual(told == ((), []), not lacking)
            self.assertEqual(mended(web, root, many), told)

    def test_where_nothing_lacks(self):
        self.assertEqual(mended(WEB, "a", 1), ((), []))
        self.assertEqual(mended(WEB, "a", 2), ((), []))
        for web in some_webs():
            for root in web[0]:
                self.assertEqual(mended(web, root, 0), ((), []))

    def test_where_more_ties_lead_in_than_needed(self):
        rows = tuple(sorted([(a + b + more, a, b) for a in "abcd" for b in "bcd" for more in "xyz" if a != b]))
        for many in range(4):
            self.assertEqual(mended((("a", "b", "c", "d"), rows), "a", many), ((), []))

    def test_of_the_root_alone(self):
        for many in range(7):
            self.assertEqual(mended(ALONE, "a", many), ((), []))

    def test_where_there_is_just_one(self):
        self.assertEqual(mended(APART, "a", 1), (("b",), [("b",)]))
        self.assertEqual(mended(APART, "b", 6), (("a",) * 6, [("a",)]))
        chain = (("a", "b", "c"), (("p", "b", "c"),))
        places, lots = mended(chain, "a", 1)
        self.assertEqual(places, ("b",))
        self.assertIn(lots, [[("b",)], [("b", "c")]])
        self.assertEqual(mended((("a", "b", "c"), ()), "c", 2)[0], ("a", "a", "b", "b"))

    def test_fewer_where_ties_lead_on(self):
        ring = (("a", "b", "c", "d"), (("p", "b", "c"), ("q", "c", "d"), ("r", "d", "b")))
        places, lots = mended(ring, "a", 1)
        self.assertEqual((len(places), lots), (1, [("b", "c", "d")]))
        places, lots = mended(ring, "a", 2)
        self.assertEqual(fault_of(ring, "a", 2, (places, lots)), "")
        self.assertEqual(len(places), 3)

    def test_small_webs(self):
        for web in some_webs() + [TALL]:
            for root in web[0]:
                self.tried(web, root)

    def test_greater_webs(self):
        for web in chance_webs(26, 30, 8, 40):
            for root in (web[0][0], web[0][-1]):
                self.tried(web, root)

    def test_webs_without_ties(self):
        for many in range(1, 9):
            web = (tuple("abcdefgh"[:many]), ())
            for root in web[0]:
                self.tried(web, root)
        told = mended((tuple("abcdefgh"), ()), "d", 6)
        self.assertEqual(told[0], tuple("aaaaaabbbbbbcccccceeeeeeffffffgggggghhhhhh"))
        self.assertEqual(sorted(told[1]), [("a",), ("b",), ("c",), ("e",), ("f",), ("g",), ("h",)])

    def test_there_are_so_many_shares_then(self):
        for web in some_webs() + chance_webs(27, 12, 6, 12):
            root = web[0][-1]
            for many in (1, 3, 6):
                whole = with_more(web, root, mended(web, root, many)[0])
                self.assertEqual(share_fault(whole, [root] * many, shares(whole, root, many)), "")

    def test_no_fewer_ties_from_wherever(self):
        for web in some_webs()[:40]:
            root = web[0][0]
            many = len(mended(web, root, 2)[0])
            if many == 0:
                continue
            pairs = [(a, b) for a in web[0] for b in web[0] if a != b]
            for chosen in itertools.combinations_with_replacement(pairs, many - 1):
                more = [("z" + "abcdefgh"[at], a, b) for at, (a, b) in enumerate(chosen)]
                whole = (web[0], tuple(sorted(list(web[1]) + more)))
                self.assertLess(min([into(whole, lot) for lot in lots_without(whole, root)]), 2)

    def test_renamed(self):
        for web in some_webs() + [TALL]:
            places, ties = turned_names(web)
            for root in web[0]:
                for many in (1, 2, 3):
                    told = mended(renamed(web, places, ties), places[root], many)
                    self.assertEqual(len(told[0]), len(mended(web, root, many)[0]))

    def test_a_told_list_is_the_askers_own(self):
        before = mended(TALL, "a", 4)
        told = mended(TALL, "a", 4)
        told[1].append(None)
        told[1][0] = ()
        self.assertEqual(mended(TALL, "a", 4), before)
        mended(WEB, "a", 1)[1].append(("b",))
        self.assertEqual(mended(WEB, "a", 1), ((), []))

    def test_no_web(self):
        for thing in NO_WEBS:
            refused(self, NoWeb, mended, thing, "a", 1)
            refused(self, NoWeb, mended, thing, thing, thing)

    def test_no_place(self):
        for thing in NO_NAMES + ["e", "ab"]:
            refused(self, NoPlace, mended, WEB, thing, 1)
            refused(self, NoPlace, mended, WEB, thing, 9)
            refused(self, NoPlace, mended, WEB, "e", thing)

    def test_no_number(self):
        before = mended(TALL, "a", 4)
        for at, thing in enumerate(NO_NUMBERS):
            with self.subTest(at=at):
                refused(self, NoNumber, mended, TALL, "a", thing)
                refused(self, NoNumber, mended, ALONE, "a", thing)
                self.assertEqual(mended(TALL, "a", 4), before)


if __name__ == "__main__":
    unittest.main()
