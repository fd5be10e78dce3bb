import random
import unittest

from rootshares.errors import NoCosts, NoNumber, NoPlace, NoTie, NoWeb, RootError
from rootshares.keeping import Keeper
from rootshares.many import cheapest_shares
from rootshares.shares import least
from rootshares.webs import with_tie, without
from things import (ALONE, APART, COSTS, NO_COSTS, NO_NAMES, NO_WEBS, NO_WHOLES, ODD, TALL, WEB, Prickly, chance_web,
                    cheapest_sets, cost_together, keep, refused, share_fault, some_costs, some_names, told_few, trees_of)

NO_NUMBERS = NO_WHOLES + [0, -1, -2, 7, 8, 40, -(10 ** 28), 10 ** 28]
GREAT = 10 ** 30 - 1


def number_of(trees, tie):
    """The number of the tree that has a tie, None where none has it."""
    for number, tree in enumerate(trees):
        if tie in tree:
            return number
    return None


def rows_between(before, now):
    """The rows of the ties that have another number in the one list of trees than in the other."""
    rows = []
    for tie in sorted(set([tie for tree in before + now for tie in tree])):
        if number_of(before, tie) != number_of(now, tie):
            rows.append((tie, number_of(before, tie), number_of(now, tie)))
    return rows


def state(keeper):
    """All that a keeper tells."""
    return keeper.web(), keeper.costs(), keeper.trees(), keeper.cost()


class Keeping(unittest.TestCase):
    def asked(self, keeper, web, root, many, costs):
        """Ask a keeper for the web and the costs, and that its trees are as many and as cheap as can be."""
        self.assertEqual((keeper.web(), keeper.costs()), (web, costs))
        self.assertIsInstance(keeper.costs(), tuple)
        found = least(web, root)
        most = many if found is None else min(many, found[0])
        trees = keeper.trees()
        self.assertEqual(share_fault(web, [root] * most, trees), "", (web, root, many, trees))
        self.assertEqual(keeper.cost(), cost_together(web, costs, trees))
        if most > 0:
            self.assertEqual(keeper.cost(), cost_together(web, costs, cheapest_shares(web, root, most, costs)[0]))
        else:
            self.assertEqual((trees, keeper.cost()), ([], 0))
        self.assertEqual(state(keeper), state(keeper))
        return trees

    def changed(self, rows, before, now):
        """Ask that rows tell just what is unlike in two lists of trees."""
        self.assertIsInstance(rows, list)
        for row in rows:
            self.assertIsInstance(row, tuple)
            self.assertIsNot(row[1].__class__, bool)
        self.assertEqual(rows, rows_between(before, now))

    def test_as_made(self):
        for many in range(1, 7):
            self.asked(Keeper(WEB, "a", many, COSTS), WEB, "a", many, COSTS)
        for root in TALL[0]:
            costs = tuple(range(9))
            self.asked(Keeper(TALL, root, 2, costs), TALL, root, 2, costs)

    def test_of_the_root_alone(self):
        for many in range(1, 7):
            keeper = Keeper(ALONE, "a", many, ())
            self.assertEqual(state(keeper), (ALONE, (), [()] * many, 0))
            self.assertIs(keeper.undo(), None)
            refused(self, NoTie, keeper.take, "p")
            refused(self, NoPlace, keeper.put, "p", "a", "a", 1)
            refused(self, NoPlace, keeper.put, "p", "a", "b", 1)
            self.assertEqual(state(keeper), (ALONE, (), [()] * many, 0))

    def test_webs_without_ties(self):
        keeper = Keeper(APART, "a", 2, ())
        self.assertEqual(state(keeper), (APART, (), [], 0))
        self.assertEqual(keeper.put("q", "a", "b", 5), [("q", None, 0)])
        self.assertEqual(state(keeper), ((("a", "b"), (("q", "a", "b"),)), (5,), [("q",)], 5))
        keeper.put("p", "a", "b", -7)
        self.assertEqual(sorted(keeper.trees()), [("p",), ("q",)])
        self.assertEqual((keeper.costs(), keeper.cost()), ((-7, 5), -2))
        self.assertEqual(keeper.put("r", "b", "a", -100), [])
        self.assertEqual(keeper.costs(), (-7, 5, -100))

    def test_ties_that_make_more_shares(self):
        keeper = Keeper((("a", "b"), (("p", "a", "b"),)), "a", 3, (4,))
        before = keeper.trees()
        for step, tie in enumerate(("o", "q")):
            rows = keeper.put(tie, "a", "b", 50 + step)
            self.changed(rows, before, keeper.trees())
            self.assertIn(tie, [row[0] for row in rows])
            before = keeper.trees()
            self.assertEqual(len(before), step + 2)
        self.assertEqual(keeper.put("z", "a", "b", 99), [])
        self.assertEqual(keeper.trees(), before)

    def test_ties_that_make_them_cheaper(self):
        keeper = Keeper((("a", "b"), (("p", "a", "b"), ("q", "a", "b"))), "a", 1, (4, 6))
        self.assertEqual(keeper.put("o", "a", "b", 3), [("o", None, 0), ("p", 0, None)])
        self.assertEqual((keeper.trees(), keeper.cost()), ([("o",)], 3))
        self.assertEqual(keeper.put("n", "a", "b", -GREAT), [("n", None, 0), ("o", 0, None)])
        self.assertEqual(keeper.cost(), -GREAT)

    def test_ties_that_change_nothing(self):
        keeper = Keeper(WEB, "a", 2, COSTS)
        before = keeper.trees()
        web = WEB
        for tie, a, b, cost in [("x", "b", "a", -9), ("y", "a", "d", 10 ** 30 - 1), ("z", "c", "b", 10 ** 30 - 2)]:
            web = with_tie(web, tie, a, b)
            self.assertEqual(keeper.put(tie, a, b, cost), [])
            self.assertEqual(keeper.trees(), before)
        self.assertEqual((keeper.web(), keeper.costs()), (web, COSTS + (-9, 10 ** 30 - 1, 10 ** 30 - 2)))
        self.assertEqual(keeper.take("y"), [])
        self.assertEqual(keeper.take("x"), [])
        self.assertEqual(keeper.trees(), before)
        self.assertEqual(keeper.costs(), COSTS + (10 ** 30 - 2,))

    def test_trees_stay_where_others_cost_as_much(self):
        keeper = Keeper((("a", "b"), (("m", "a", "b"),)), "a", 1, (5,))
        for tie in ("z", "b", "l", "a"):
            self.assertEqual(keeper.put(tie, "a", "b", 5), [])
            self.assertEqual(keeper.trees(), [("m",)])
        for tie in ("a", "z"):
            self.assertEqual(keeper.take(tie), [])
            self.assertEqual(keeper.trees(), [("m",)])

    def test_the_costs_stand_in_the_order_of_the_ties(self):
        keeper = Keeper((("a", "b"), (("m", "a", "b"),)), "a", 1, (5,))
        keeper.put("z", "a", "b", 9)
        keeper.put("c", "a", "b", 7)
        keeper.put("n", "b", "a", 1)
        self.assertEqual([row[0] for row in keeper.web()[1]], ["c", "m", "n", "z"])
        self.assertEqual(keeper.costs(), (7, 5, 1, 9))
        keeper.take("m")
        self.assertEqual(keeper.costs(), (7, 1, 9))
        self.assertEqual(keeper.trees(), [("c",)])

    def test_ties_taken_that_a_tree_has(self):
        for tie in [row[0] for row in WEB[1]]:
            keeper = Keeper(WEB, "a", 2, COSTS)
            before = keeper.trees()
            rows = keeper.take(tie)
            web = without(WEB, (tie,))
            costs = tuple([cost for row, cost in zip(WEB[1], COSTS) if row[0] != tie])
            now = self.asked(keeper, web, "a", 2, costs)
            self.changed(rows, before, now)
            if number_of(before, tie) is None:
                self.assertEqual((rows, now), ([], before))
            else:
                self.assertIn((tie, number_of(before, tie), None), rows)

    def test_fewer_shares_left_or_none(self):
        web = (("a", "b"), (("p", "a", "b"), ("q", "a", "b"), ("r", "a", "b")))
        keeper = Keeper(web, "a", 6, (3, 2, 1))
        for tie, many in (("q", 2), ("p", 1), ("r", 0)):
            before = keeper.trees()
            self.changed(keeper.take(tie), before, keeper.trees())
            self.assertEqual(len(keeper.trees()), many)
        self.assertEqual(state(keeper), ((("a", "b"), ()), (), [], 0))
        for many in (1, 2, 3):
            before = keeper.trees()
            self.changed(keeper.undo(), before, keeper.trees())
            self.assertEqual(len(keeper.trees()), many)
        self.assertIs(keeper.undo(), None)

    def test_undo(self):
        keeper = Keeper(WEB, "a", 2, COSTS)
        self.assertIs(keeper.undo(), None)
        states = [state(keeper)]
        keeper.put("x", "a", "d", -6)
        states.append(state(keeper))
        keeper.take("ab")
        states.append(state(keeper))
        keeper.put("ab", "c", "b", 1)
        states.append(state(keeper))
        keeper.take("x")
        for wanted in states[::-1]:
            before = keeper.trees()
            rows = keeper.undo()
            self.changed(rows, before, keeper.trees())
            self.assertEqual(state(keeper), wanted)
        self.assertIs(keeper.undo(), None)
        self.assertIs(keeper.undo(), None)
        self.assertEqual(state(keeper), states[0])

    def test_undone_and_put_anew(self):
        keeper = Keeper(WEB, "a", 2, COSTS)
        first = state(keeper)
        keeper.put("x", "a", "d", -6)
        second = state(keeper)
        keeper.put("y", "a", "c", -6)
        keeper.undo()
        keeper.take("x")
        self.assertIsNotNone(keeper.undo())
        self.assertEqual(state(keeper), second)
        self.assertIsNotNone(keeper.undo())
        self.assertEqual(state(keeper), first)
        keeper.put("x", "a", "b", 2)
        keeper.put("y", "a", "b", 2)
        keeper.undo()
        self.assertEqual(keeper.web(), with_tie(WEB, "x", "a", "b"))
        keeper.undo()
        self.assertEqual(state(keeper), first)
        self.assertIs(keeper.undo(), None)

    def test_an_undone_deed_that_changed_nothing_is_one(self):
        keeper = Keeper(WEB, "a", 1, COSTS)
        keeper.put("x", "b", "a", 0)
        self.assertEqual(keeper.undo(), [])
        self.assertIs(keeper.undo(), None)
        self.assertEqual(keeper.web(), WEB)

    def test_two_keepers_apart(self):
        one = Keeper(WEB, "a", 2, COSTS)
        other = Keeper(WEB, "a", 2, COSTS)
        before = state(other)
        one.put("x", "a", "d", -100)
        one.take("ac")
        self.assertEqual(state(other), before)
        self.assertIs(other.undo(), None)
        other.take("bd")
        one.undo()
        self.assertEqual(one.web(), with_tie(WEB, "x", "a", "d"))
        self.assertEqual(other.web(), without(WEB, ("bd",)))

    def test_told_lists_are_the_askers_own(self):
        keeper = Keeper(WEB, "a", 2, COSTS)
        before = state(keeper)
        keeper.trees().append(())
        keeper.trees().clear()
        keeper.trees()[0] = None
        self.assertEqual(state(keeper), before)
        rows = keeper.put("x", "a", "d", -100)
        behind = state(keeper)
        rows.clear()
        self.assertEqual(state(keeper), behind)
        rows = keeper.undo()
        rows.append(None)
        self.assertEqual(state(keeper), before)
        told = keeper.trees()
        keeper.put("x", "a", "d", -100)
        self.assertEqual(told, before[2])

    def test_small_webs_against_all_sets_of_trees(self):
        chance = random.Random(80)
        for step in range(12):
            web = chance_web(chance, chance.randint(2, 4), chance.randint(0, 8))
            costs = some_costs(chance, len(web[1]))
            self.deeds(chance, web, 2, costs, 10, True)

    def test_sixty_deeds(self):
        chance = random.Random(81)
        for many in (1, 2, 3, 4, 6):
            web = chance_web(chance, 6 if many < 6 else 3, 24)
            self.deeds(chance, web, many, some_costs(chance, 24), 60, False)

    def deeds(self, chance, web, many, costs, steps, all_sets):
        """Do so many deeds, and ask behind each of them."""
        root = web[0][0]
        keeper = Keeper(web, root, many, costs)
        self.asked(keeper, web, root, many, costs)
        done = []
        for step in range(steps):
            before = keeper.trees()
            ahead = state(keeper)
            deed = chance.choice(["put", "put", "take", "take", "undo"])
            if deed == "put" and len(web[1]) < 40:
                tie = chance.choice([name for name in some_names(60) if name not in [row[0] for row in web[1]]])
                a, b = chance.sample(web[0], 2)
                cost = chance.choice([chance.randint(-9, 9), 0, chance.randint(-(10 ** 29), 10 ** 29)])
                each = dict(zip([row[0] for row in web[1]], costs))
                each[tie] = cost
                web = with_tie(web, tie, a, b)
                costs = tuple([each[row[0]] for row in web[1]])
                rows = keeper.put(tie, a, b, cost)
                done.append(ahead)
            elif deed != "undo" and web[1]:
                tie = chance.choice([row[0] for row in web[1]])
                if before and chance.random() < 0.5:
                    tie = chance.choice(chance.choice(before))
                costs = tuple([cost for row, cost in zip(web[1], costs) if row[0] != tie])
                web = without(web, (tie,))
                rows = keeper.take(tie)
                done.append(ahead)
            else:
                rows = keeper.undo()
                if not done:
                    self.assertIs(rows, None)
                    continue
                self.assertEqual(state(keeper), done[-1])
                web, costs = done.pop()[:2]
            now = self.asked(keeper, web, root, many, costs)
            self.changed(rows, before, now)
            if all_sets:
                self.assertEqual(keeper.cost(), cheapest_sets(web, costs, trees_of(web, root), len(now)))
                self.assertTrue(len(now) == many or
                                cheapest_sets(web, costs, trees_of(web, root), len(now) + 1) is None)
        while done:
            keeper.undo()
            self.assertEqual(state(keeper), done.pop())

    def test_asked_again_all_is_told_alike(self):
        told = []
        for step in range(2):
            keeper = Keeper(WEB, "a", 3, COSTS)
            rows = [keeper.put("x", "a", "c", 3), keeper.put("y", "a", "d", 3), keeper.take("bd"), keeper.undo()]
            told.append((rows, state(keeper)))
        self.assertEqual(told[0], told[1])


class Refusals(unittest.TestCase):
    def test_no_web(self):
        for thing in NO_WEBS:
            refused(self, NoWeb, Keeper, thing, "a", 1, ())
            refused(self, NoWeb, Keeper, thing, thing, thing, thing)

    def test_no_place(self):
        for thing in NO_NAMES + ["e", "ab"]:
            refused(self, NoPlace, Keeper, WEB, thing, 1, COSTS)
            refused(self, NoPlace, Keeper, WEB, thing, thing, thing)
            refused(self, NoPlace, Keeper, WEB, "e", thing, thing)

    def test_no_number(self):
        for at, thing in enumerate(NO_NUMBERS):
            with self.subTest(at=at):
                refused(self, NoNumber, Keeper, WEB, "a", thing, COSTS)
                refused(self, NoNumber, Keeper, WEB, "a", thing, thing)

    def test_no_costs(self):
        for at, thing in enumerate(NO_COSTS):
            with self.subTest(at=at):
                refused(self, NoCosts, Keeper, WEB, "a", 2, thing)
        for thing in ODD + [(1,), []]:
            refused(self, NoCosts, Keeper, APART, "a", 2, thing)

    def test_too_few_is_no_refusal_of_a_keeper(self):
        self.assertIs(told_few(Keeper, APART, "a", 6, ()), None)

    def same_behind(self, keeper, error, deed, *given):
        """Ask for a refusal, and that nothing has changed by it, and nothing was done that could be undone."""
        before = state(keeper)
        refused(self, error, deed, *given)
        self.assertEqual(state(keeper), before)

    def test_put(self):
        keeper = Keeper(WEB, "a", 2, COSTS)
        for at, thing in enumerate(NO_NAMES + [row[0] for row in WEB[1]] + [("x",), "x y"]):
            with self.subTest(at=at):
                self.same_behind(keeper, NoTie, keeper.put, thing, "a", "b", 1)
                # NoTie goes ahead of NoPlace and of NoCosts.
                self.same_behind(keeper, NoTie, keeper.put, thing, "a", "a", None)
                self.same_behind(keeper, NoTie, keeper.put, "ab", thing, thing, thing)
        for at, thing in enumerate(NO_NAMES + ["e", "ab", ("a",)]):
            with self.subTest(at=at):
                self.same_behind(keeper, NoPlace, keeper.put, "x", "a", thing, 1)
                self.same_behind(keeper, NoPlace, keeper.put, "x", thing, "a", 1)
                # NoPlace goes ahead of NoCosts.
                self.same_behind(keeper, NoPlace, keeper.put, "x", thing, thing, thing)
                self.same_behind(keeper, NoPlace, keeper.put, "x", "b", "b", thing)
        for at, thing in enumerate(NO_WHOLES + [True, False, Prickly(), COSTS]):
            with self.subTest(at=at):
                self.same_behind(keeper, NoCosts, keeper.put, "x", "a", "b", thing)
        self.assertIs(keeper.undo(), None)
        self.assertEqual(state(keeper), state(Keeper(WEB, "a", 2, COSTS)))
        other = Keeper(WEB, "a", 2, COSTS)
        self.assertEqual(keeper.put("x", "a", "b", -9), other.put("x", "a", "b", -9))
        self.assertEqual(state(keeper), state(other))

    def test_take(self):
        keeper = Keeper(WEB, "a", 2, COSTS)
        for at, thing in enumerate(NO_NAMES + ["b", "x", ("ab",), ["ab"], ("ab", "ac")]):
            with self.subTest(at=at):
                self.same_behind(keeper, NoTie, keeper.take, thing)
        self.assertIs(keeper.undo(), None)
        keeper.take("ab")
        self.same_behind(keeper, NoTie, keeper.take, "ab")
        keeper.undo()
        self.assertIs(keeper.undo(), None)
        self.assertEqual(state(keeper), state(Keeper(WEB, "a", 2, COSTS)))

    def test_refusals_come_under_one(self):
        keeper = Keeper(WEB, "a", 2, COSTS)
        for deed, given in ((keeper.put, ("ab", "a", "b", 1)), (keeper.take, ("x",)), (Keeper, (WEB, "a", 0, COSTS))):
            with self.assertRaises(RootError):
                deed(*given)

    def test_what_is_handed_in_stays(self):
        before = keep((WEB, COSTS))
        keeper = Keeper(WEB, "a", 2, COSTS)
        keeper.put("x", "a", "b", -9)
        keeper.take("ab")
        self.assertEqual(keep((WEB, COSTS)), before)


if __name__ == "__main__":
    unittest.main()
