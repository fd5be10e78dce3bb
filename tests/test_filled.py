import random
import unittest

from rootshares.errors import NoLot, NoNumber, NoPlace, NoWeb
from rootshares.filled import just_filled, shrunk, within
from rootshares.webs import is_web
from things import (ALONE, APART, NO_NAMES, NO_WEBS, NO_WHOLES, ODD, TALL, WEB, Prickly, chance_webs, doubled, into, keep,
                    lots_of, lots_without, refused, renamed, some_webs, told_few, turned_names)

NO_NUMBERS = NO_WHOLES + [-1, -2, 7, 8, 40, -(10 ** 28), 10 ** 28]
NO_LOTS = ODD + [
    (), "b", "bc", ["b", "c"], ("b", "b"), ("c", "b"), ("b", "e"), ("e",), ("ab",), ("b", None), ("b", 1), {"b"}, ("B",),
    ("b", Prickly()), (("b",),), ("b", ("c",)), [], {"b": 1}]


def refuse(case, deed, lot, taken):
    """Ask a deed of a web, a lot and a name for all its refusals."""
    for thing in NO_WEBS:
        refused(case, NoWeb, deed, thing, ("a",), "m")
        refused(case, NoWeb, deed, thing, thing, thing)
    before = deed(WEB, lot, "m")
    for at, thing in enumerate(NO_LOTS):
        with case.subTest(at=at):
            refused(case, NoLot, deed, WEB, thing, "m")
            # NoLot goes ahead of NoPlace.
            refused(case, NoLot, deed, WEB, thing, thing)
            refused(case, NoLot, deed, WEB, (), thing)
            case.assertEqual(deed(WEB, lot, "m"), before)
    for at, thing in enumerate(NO_NAMES + taken):
        with case.subTest(at=at):
            refused(case, NoPlace, deed, WEB, lot, thing)
            case.assertEqual(deed(WEB, lot, "m"), before)
    for other in (("b", "c", "d"), ("a", "b", "c", "d")):
        for thing in NO_NAMES:
            refused(case, NoPlace, deed, WEB, other, thing)


class JustFilled(unittest.TestCase):
    def tried(self, web, root):
        lots = lots_without(web, root)
        for many in range(7):
            short = [lot for lot in lots if into(web, lot) < many]
            lot = told_few(just_filled, web, root, many)
            if short:
                self.assertIn(lot, short)
                continue
            self.assertIs(lot, None)
            told = just_filled(web, root, many)
            self.assertIsInstance(told, list)
            self.assertEqual(told, sorted([lot for lot in lots if into(web, lot) == many]))
            self.assertEqual(just_filled(web, root, many), told)
            # What two have in common, and both together.
            for one in told:
                for other in told:
                    if set(one) & set(other):
                        self.assertIn(tuple(sorted(set(one) & set(other))), told)
                        self.assertIn(tuple(sorted(set(one) | set(other))), told)

    def test_of_the_root_alone(self):
        for many in range(7):
            self.assertEqual(just_filled(ALONE, "a", many), [])

    def test_webs_without_ties(self):
        self.assertEqual(just_filled((("a", "b", "c"), ()), "b", 0), [("a",), ("a", "c"), ("c",)])
        self.assertEqual(told_few(just_filled, APART, "a", 1), ("b",))

    def test_of_a_web(self):
        self.assertEqual(just_filled(WEB, "a", 0), [])
        self.assertEqual(just_filled(WEB, "a", 1), [])
        self.assertEqual(just_filled(WEB, "a", 2), [("c",), ("d",)])
        chain = (("a", "b", "c"), (("p", "a", "b"), ("q", "b", "c"), ("r", "a", "c"), ("s", "c", "a")))
        self.assertEqual(just_filled(chain, "a", 1), [("b",)])
        self.assertEqual(just_filled(chain, "a", 0), [])
        self.assertEqual(just_filled(chain, "b", 0), [])

    def test_where_too_few_lead_in(self):
        self.assertIn(told_few(just_filled, WEB, "a", 3), [("c",), ("d",)])
        # Into another lot just three lead: it is refused all the same.
        self.assertEqual(into(WEB, ("b",)), 3)

    def test_small_webs(self):
        for web in some_webs() + [TALL] + [doubled(web) for web in some_webs()]:
            for root in web[0]:
                self.tried(web, root)

    def test_greater_webs(self):
        for web in chance_webs(110, 40, 8, 40):
            self.tried(web, web[0][0])
            self.tried(web, web[0][-1])

    def test_renamed(self):
        for web in some_webs() + [TALL]:
            places, ties = turned_names(web)
            for root in web[0]:
                for many in range(3):
                    if told_few(just_filled, web, root, many) is not None:
                        self.assertIsNotNone(told_few(just_filled, renamed(web, places, ties), places[root], many))
                        continue
                    wanted = [tuple(sorted([places[place] for place in lot])) for lot in just_filled(web, root, many)]
                    self.assertEqual(just_filled(renamed(web, places, ties), places[root], many), sorted(wanted))

    def test_a_told_list_is_the_askers_own(self):
        before = just_filled(WEB, "a", 2)
        just_filled(WEB, "a", 2).clear()
        just_filled(ALONE, "a", 2).append(1)
        self.assertEqual(just_filled(WEB, "a", 2), before)
        self.assertEqual(just_filled(ALONE, "a", 2), [])

    def test_refusals(self):
        for thing in NO_WEBS:
            refused(self, NoWeb, just_filled, thing, "a", 1)
            refused(self, NoWeb, just_filled, thing, thing, thing)
        for thing in NO_NAMES + ["e", "ab"]:
            refused(self, NoPlace, just_filled, WEB, thing, 1)
            refused(self, NoPlace, just_filled, WEB, thing, 6)
            refused(self, NoPlace, just_filled, WEB, "e", thing)
        for at, thing in enumerate(NO_NUMBERS):
            with self.subTest(at=at):
                refused(self, NoNumber, just_filled, WEB, "a", thing)
                # NoNumber goes ahead of TooFew.
                refused(self, NoNumber, just_filled, APART, "a", thing)
                refused(self, NoNumber, just_filled, ALONE, "a", thing)
                self.assertEqual(just_filled(WEB, "a", 2), [("c",), ("d",)])


class Shrunk(unittest.TestCase):
    def test_one_place(self):
        self.assertEqual(shrunk(WEB, ("b",), "b"), WEB)
        self.assertEqual(shrunk(APART, ("b",), "b"), APART)
        told = shrunk(WEB, ("b",), "x")
        self.assertEqual(told, (("a", "c", "d", "x"), (
            ("a", "a", "x"), ("ab", "a", "x"), ("ac", "a", "c"), ("bc", "x", "c"), ("bd", "x", "d"), ("cd", "c", "d"),
            ("da", "d", "a"), ("db", "d", "x"))))

    def test_several_places(self):
        self.assertEqual(shrunk(WEB, ("b", "d"), "d"), (("a", "c", "d"), (
            ("a", "a", "d"), ("ab", "a", "d"), ("ac", "a", "c"), ("bc", "d", "c"), ("cd", "c", "d"), ("da", "d", "a"))))
        self.assertEqual(shrunk(WEB, ("a", "b", "c"), "m"), (("d", "m"), (
            ("bd", "m", "d"), ("cd", "m", "d"), ("da", "d", "m"), ("db", "d", "m"))))

    def test_all_places(self):
        self.assertEqual(shrunk(WEB, ("a", "b", "c", "d"), "c"), (("c",), ()))
        self.assertEqual(shrunk(WEB, ("a", "b", "c", "d"), "zz"), (("zz",), ()))
        self.assertEqual(shrunk(ALONE, ("a",), "a"), ALONE)

    def test_each_lot(self):
        for web in some_webs() + [TALL] + chance_webs(111, 12, 6, 20):
            for lot in lots_of(web):
                for name in ("m", "zzzzzzzz", lot[0], lot[-1]):
                    told = shrunk(web, lot, name)
                    self.assertIs(is_web(told), True)
                    self.assertEqual(set(told[0]), (set(web[0]) - set(lot)) | {name})
                    wanted = []
                    for tie, start, end in web[1]:
                        if not (start in lot and end in lot):
                            wanted.append((tie, name if start in lot else start, name if end in lot else end))
                    self.assertEqual(list(told[1]), wanted)

    def test_refusals(self):
        refuse(self, shrunk, ("b", "c"), ["a", "d"])


class Within(unittest.TestCase):
    def test_one_place(self):
        self.assertEqual(within(WEB, ("b",), "a"), (("a", "b"), (("a", "a", "b"), ("ab", "a", "b"), ("db", "a", "b"))))
        self.assertEqual(within(WEB, ("a",), "x"), (("a", "x"), (("da", "x", "a"),)))
        self.assertEqual(within(APART, ("b",), "a"), APART)

    def test_several_places(self):
        self.assertEqual(within(WEB, ("b", "d"), "c"), (("b", "c", "d"), (
            ("a", "c", "b"), ("ab", "c", "b"), ("bd", "b", "d"), ("cd", "c", "d"), ("db", "d", "b"))))
        self.assertEqual(within(WEB, ("a", "b", "c"), "d"), (("a", "b", "c", "d"), (
            ("a", "a", "b"), ("ab", "a", "b"), ("ac", "a", "c"), ("bc", "b", "c"), ("da", "d", "a"), ("db", "d", "b"))))

    def test_all_places(self):
        told = within(WEB, ("a", "b", "c", "d"), "e")
        self.assertEqual(told, (("a", "b", "c", "d", "e"), WEB[1]))
        self.assertEqual(within(ALONE, ("a",), "b"), APART)
        self.assertEqual(within((("b",), ()), ("b",), "a"), APART)

    def test_each_lot(self):
        for web in some_webs() + [TALL] + chance_webs(112, 12, 6, 20):
            for lot in lots_of(web):
                for name in ["m", "zzzzzzzz"] + [place for place in web[0] if place not in lot]:
                    told = within(web, lot, name)
                    self.assertIs(is_web(told), True)
                    self.assertEqual(set(told[0]), set(lot) | {name})
                    wanted = []
                    for tie, start, end in web[1]:
                        if start in lot and end in lot:
                            wanted.append((tie, start, end))
                        elif end in lot:
                            wanted.append((tie, name, end))
                    self.assertEqual(list(told[1]), wanted)

    def test_refusals(self):
        refuse(self, within, ("b", "c"), ["b", "c"])


class Told(unittest.TestCase):
    def test_what_is_handed_in_stays(self):
        before = keep(WEB)
        shrunk(WEB, ("b", "c"), "m")
        within(WEB, ("b", "c"), "m")
        just_filled(WEB, "a", 2)
        self.assertEqual(keep(WEB), before)

    def test_as_many_lead_in(self):
        chance = random.Random(113)
        for web in chance_webs(114, 30, 7, 30):
            lot = chance.choice(lots_of(web))
            self.assertEqual(into(shrunk(web, lot, "m"), ("m",)), into(web, lot))
            self.assertEqual(into(within(web, lot, "m"), lot), into(web, lot))


if __name__ == "__main__":
    unittest.main()
