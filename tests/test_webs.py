import unittest

from rootshares.errors import NoLot, NoPlace, NoTie, NoWeb
from rootshares.webs import ends, is_web, leading_in, with_tie, without
from things import ALONE, APART, NO_NAMES, ODD, WEB, Prickly, lots_of, refused, some_webs

NAMES = [row[0] for row in WEB[1]]


def with_rows(*rows):
    return (("a", "b", "c"), rows)


NO_WEBS = NO_NAMES + [
    "ab", "a", (), WEB[0], WEB[1], (WEB,), (WEB, WEB),
    # not two things
    (("a",),), (("a",), (), ()),
    # lists for tuples, and other kinds
    [("a",), ()], (["a"], ()), (("a",), []), (("a", "b"), (["t", "a", "b"],)), (("a", "b"), [("t", "a", "b")]),
    ("a", ()), (("a",), ""), ("ab", ()), ({"a"}, ()), ({"a": "a"}, ()), (("a",), {}), (("a",), None), (None, ()),
    (("a", "b"), ("tab",)), (("a", "b"), (None,)), (("a", "b"), (3,)), (("a",), 0), (0, ()), (True, True),
    # places: none, twice, out of order
    ((), ()), (("a", "a"), ()), (("b", "a"), ()), (("a", "b", "b"), ()), (("a", "c", "b"), ()), (("b", "ab"), ()),
    # ties: twice, alike names, out of order
    with_rows(("t", "a", "b"), ("t", "a", "b")), with_rows(("t", "a", "b"), ("t", "b", "c")),
    with_rows(("t", "a", "b"), ("s", "b", "c")), with_rows(("b", "a", "b"), ("ab", "b", "c")),
    with_rows(("s", "a", "b"), ("u", "b", "c"), ("t", "a", "c")),
    # of two or four things, or none
    with_rows(("t", "a")), with_rows(("t", "a", "b", "c")), with_rows(()), with_rows(("t",)),
    # from or to no place, from a place to itself
    with_rows(("t", "d", "a")), with_rows(("t", "a", "d")), with_rows(("t", "a", "a")), with_rows(("t", "a", "ab")),
    with_rows(("s", "a", "b"), ("t", "c", "c")), with_rows(("s", "a", "b"), ("t", "c", "d")),
]


class IsWeb(unittest.TestCase):
    def test_webs(self):
        several = (("a", "b"), (("s", "a", "b"), ("t", "a", "b"), ("u", "b", "a"), ("v", "b", "a")))
        long_names = (("aaaaaaaa", "zzzzzzzz"), (("abcdefgh", "zzzzzzzz", "aaaaaaaa"),))
        one_name = (("a", "b"), (("a", "a", "b"), ("b", "b", "a")))
        eight = (tuple("abcdefgh"), tuple([("t" + end, "a", end) for end in "bcdefgh"]))
        for web in some_webs() + [several, long_names, one_name, eight]:
            with self.subTest(web=web):
                self.assertIs(is_web(web), True)

    def test_a_large_one(self):
        names = sorted([first + second for first in "abcdefg" for second in "abcdefg"])[:40]
        rows = tuple([(name, "hgfedcba"[at % 8], "hgfedcba"[(at + 3) % 8]) for at, name in enumerate(names)])
        self.assertIs(is_web((tuple("abcdefgh"), rows)), True)

    def test_no_webs(self):
        for at, thing in enumerate(NO_WEBS):
            with self.subTest(at=at):
                self.assertIs(is_web(thing), False)

    def test_things_that_are_no_names(self):
        for at, thing in enumerate(NO_NAMES):
            with self.subTest(at=at):
                self.assertIs(is_web(((thing,), ())), False)
                self.assertIs(is_web((("a", thing), ())), False)
                self.assertIs(is_web((("a", "b"), ((thing, "a", "b"),))), False)
                self.assertIs(is_web((("a", "b"), (("t", thing, "b"),))), False)
                self.assertIs(is_web((("a", "b"), (("t", "a", thing),))), False)
                self.assertIs(is_web((("a", "b"), (thing,))), False)
                self.assertIs(is_web((("a", "b"), (("t", "a", "b"), thing))), False)

    def test_things_that_are_no_places_or_no_ties(self):
        for at, thing in enumerate(ODD + [()]):
            with self.subTest(at=at):
                self.assertIs(is_web((thing, ())), False)
        for at, thing in enumerate(ODD + [("a",), ("a", "b")]):
            with self.subTest(at=at):
                self.assertIs(is_web((("a", "b"), thing)), False)

    def test_each_letter(self):
        for code in range(32, 127):
            letter = chr(code)
            self.assertIs(is_web(((letter,), ())), letter in "abcdefghijklmnopqrstuvwxyz")

    def test_lengths_of_names(self):
        for many in range(11):
            self.assertIs(is_web((("b" * many,), ())), 1 <= many <= 8)
            self.assertIs(is_web((("a", "b"), (("b" * many, "a", "b"),))), 1 <= many <= 8)


class Ends(unittest.TestCase):
    def test_of_each_tie(self):
        for web in some_webs():
            for name, start, end in web[1]:
                told = ends(web, name)
                self.assertEqual(told, (start, end))
                self.assertIsInstance(told, tuple)

    def test_a_tie_called_like_a_place(self):
        self.assertEqual(ends(WEB, "a"), ("a", "b"))

    def test_no_web(self):
        for thing in NO_WEBS:
            refused(self, NoWeb, ends, thing, "ab")

    def test_no_tie(self):
        for thing in NO_NAMES + ["b", "zz", ("ab",), ("ab", "a", "b")]:
            refused(self, NoTie, ends, WEB, thing)
        refused(self, NoTie, ends, ALONE, "a")

    def test_no_web_goes_first(self):
        for thing in NO_NAMES:
            refused(self, NoWeb, ends, thing, thing)


class LeadingIn(unittest.TestCase):
    def test_lots_of_one_place(self):
        self.assertEqual(leading_in(WEB, ("a",)), ["da"])
        self.assertEqual(leading_in(WEB, ("b",)), ["a", "ab", "db"])
        self.assertEqual(leading_in(WEB, ("c",)), ["ac", "bc"])
        self.assertEqual(leading_in(WEB, ("d",)), ["bd", "cd"])

    def test_lots_of_some_places(self):
        self.assertEqual(leading_in(WEB, ("b", "c")), ["a", "ab", "ac", "db"])
        self.assertEqual(leading_in(WEB, ("b", "c", "d")), ["a", "ab", "ac"])
        self.assertEqual(leading_in(WEB, ("a", "d")), ["bd", "cd"])

    def test_a_lot_of_all_places(self):
        for web in some_webs():
            self.assertEqual(leading_in(web, web[0]), [])

    def test_all_lots(self):
        for web in some_webs():
            for lot in lots_of(web):
                wanted = []
                for name, start, end in web[1]:
                    if end in lot and start not in lot:
                        wanted.append(name)
                told = leading_in(web, lot)
                self.assertEqual(told, sorted(wanted))
                self.assertIsInstance(told, list)

    def test_no_ties(self):
        self.assertEqual(leading_in(APART, ("b",)), [])

    def test_a_told_list_is_the_askers_own(self):
        told = leading_in(WEB, ("b",))
        told.append("x")
        told[0] = None
        self.assertEqual(leading_in(WEB, ("b",)), ["a", "ab", "db"])

    def test_no_web(self):
        for thing in NO_WEBS:
            refused(self, NoWeb, leading_in, thing, ("a",))
            refused(self, NoWeb, leading_in, thing, thing)

    def test_no_lot(self):
        wrong = ODD + [
            "a", "b", "ab", (), ("e",), ("a", "e"), ("b", "a"), ("a", "a"), ["a", "b"], ("ab",), ("a", None),
            ("a", Prickly()), ("a", ("b",)), ("a", "c", "b"), ("a", "b", "b"), {"a": "b"}, {"a"}, WEB]
        for at, thing in enumerate(wrong):
            with self.subTest(at=at):
                refused(self, NoLot, leading_in, WEB, thing)
                self.assertEqual(leading_in(WEB, ("a",)), ["da"])


class Without(unittest.TestCase):
    def test_no_ties(self):
        for web in some_webs():
            self.assertEqual(without(web, ()), web)

    def test_some_ties(self):
        told = without((("a", "b"), (("s", "a", "b"), ("t", "a", "b"), ("u", "b", "a"))), ("u", "s"))
        self.assertEqual(told, (("a", "b"), (("t", "a", "b"),)))
        self.assertIs(is_web(told), True)

    def test_each_tie(self):
        for web in some_webs():
            for row in web[1]:
                told = without(web, (row[0],))
                self.assertEqual(told, (web[0], tuple([other for other in web[1] if other != row])))
                self.assertIs(is_web(told), True)

    def test_some_alike(self):
        self.assertEqual(without(WEB, ("ab", "ab", "a", "ab")), (WEB[0], WEB[1][2:]))

    def test_all_ties(self):
        self.assertEqual(without(WEB, tuple(NAMES)), (WEB[0], ()))
        self.assertEqual(without(WEB, tuple(NAMES[::-1]) * 2), (WEB[0], ()))

    def test_the_web_stays(self):
        web = (("a", "b"), (("s", "a", "b"), ("t", "a", "b")))
        without(web, ("s",))
        self.assertEqual(web, (("a", "b"), (("s", "a", "b"), ("t", "a", "b"))))

    def test_no_web(self):
        for thing in NO_WEBS:
            refused(self, NoWeb, without, thing, ())
            refused(self, NoWeb, without, thing, thing)

    def test_no_tie(self):
        wrong = ODD + [
            "a", "ab", ["ab"], ["a", "ab"], [], {"ab"}, {"ab": 1}, ("b",), ("ab", "b"), ("b", "ab"), ("ab", None),
            ("ab", Prickly()), ("ab", ["ac"]), (("ab", "a", "b"),), ("ab", 1), ("ab", ("ac",)), ("AB",)]
        for at, thing in enumerate(wrong):
            with self.subTest(at=at):
                refused(self, NoTie, without, WEB, thing)
                self.assertEqual(without(WEB, ("a",)), (WEB[0], WEB[1][1:]))
        refused(self, NoTie, without, ALONE, ("a",))


class WithTie(unittest.TestCase):
    def setUp(self):
        self.web = (("a", "b", "c"), (("g", "a", "b"), ("p", "c", "a")))

    def test_ahead_between_and_behind(self):
        ahead = (("a", "b", "c"), (("f", "c", "b"), ("g", "a", "b"), ("p", "c", "a")))
        between = (("a", "b", "c"), (("g", "a", "b"), ("ga", "c", "b"), ("p", "c", "a")))
        behind = (("a", "b", "c"), (("g", "a", "b"), ("p", "c", "a"), ("q", "c", "b")))
        for name, wanted in [("f", ahead), ("ga", between), ("q", behind)]:
            told = with_tie(self.web, name, "c", "b")
            self.assertEqual(told, wanted)
            self.assertIs(is_web(told), True)

    def test_the_first_tie(self):
        self.assertEqual(with_tie(APART, "t", "b", "a"), (("a", "b"), (("t", "b", "a"),)))

    def test_an_alike_tie_and_one_called_like_a_place(self):
        self.assertEqual(with_tie(self.web, "a", "a", "b")[1], (("a", "a", "b"), ("g", "a", "b"), ("p", "c", "a")))

    def test_put_and_taken_away(self):
        for web in some_webs():
            for a in web[0]:
                for b in web[0]:
                    if a != b:
                        told = with_tie(web, "new", a, b)
                        self.assertIs(is_web(told), True)
                        self.assertEqual(ends(told, "new"), (a, b))
                        self.assertEqual(without(told, ("new",)), web)

    def test_the_web_stays(self):
        with_tie(self.web, "h", "a", "b")
        self.assertEqual(self.web, (("a", "b", "c"), (("g", "a", "b"), ("p", "c", "a"))))

    def test_no_web(self):
        for thing in NO_WEBS:
            refused(self, NoWeb, with_tie, thing, "t", "a", "b")
            refused(self, NoWeb, with_tie, thing, thing, thing, thing)

    def test_no_tie(self):
        for thing in NO_NAMES + NAMES:
            refused(self, NoTie, with_tie, WEB, thing, "a", "b")

    def test_no_place(self):
        for thing in NO_NAMES + ["e", "ab", "aa"]:
            refused(self, NoPlace, with_tie, WEB, "t", thing, "b")
            refused(self, NoPlace, with_tie, WEB, "t", "a", thing)
            refused(self, NoPlace, with_tie, WEB, "t", thing, thing)
        for place in WEB[0]:
            refused(self, NoPlace, with_tie, WEB, "t", place, place)
        refused(self, NoPlace, with_tie, ALONE, "t", "a", "a")

    def test_no_tie_goes_ahead_of_no_place(self):
        for thing in NO_NAMES:
            refused(self, NoTie, with_tie, WEB, thing, thing, "b")
            refused(self, NoTie, with_tie, WEB, "ab", "a", thing)
            refused(self, NoTie, with_tie, WEB, thing, "a", "a")

    def test_told_as_before_after_a_refusal(self):
        before = with_tie(self.web, "h", "a", "b")
        refused(self, NoTie, with_tie, self.web, "g", "a", "b")
        refused(self, NoPlace, with_tie, self.web, "h", "a", "a")
        self.assertEqual(with_tie(self.web, "h", "a", "b"), before)


if __name__ == "__main__":
    unittest.main()
