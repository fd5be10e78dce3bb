import itertools
import random
import unittest

from rootshares.errors import NoPlace, NoWeb
from rootshares.tables import determinant, table
from things import ALONE, APART, NO_NAMES, NO_WEBS, TALL, WEB, chance_webs, doubled, keep, refused, some_webs

GREAT = 10 ** 30 - 1


def by_choices(rows):
    """The sum over all choices of a column for each row, each with its sign."""
    total = 0
    for order in itertools.permutations(range(len(rows))):
        turned = [1 for low in range(len(order)) for high in range(low) if order[high] > order[low]]
        product = -1 if len(turned) % 2 else 1
        for row, column in zip(rows, order):
            product *= row[column]
        total += product
    return total


class Table(unittest.TestCase):
    def test_of_the_root_alone(self):
        self.assertEqual(table(ALONE, "a"), ())

    def test_of_two_places(self):
        self.assertEqual(table(APART, "a"), ((0,),))
        web = (("a", "b"), (("p", "a", "b"), ("q", "a", "b"), ("r", "b", "a")))
        self.assertEqual(table(web, "a"), ((2,),))
        self.assertEqual(table(web, "b"), ((1,),))

    def test_of_a_web(self):
        # To b lead a, ab, db; to c ac, bc; to d bd, cd.
        self.assertEqual(table(WEB, "a"), ((3, -1, -1), (0, 2, -1), (-1, 0, 2)))
        self.assertEqual(table(WEB, "b"), ((1, -1, 0), (0, 2, -1), (-1, 0, 2)))
        self.assertEqual(table(WEB, "c"), ((1, -2, 0), (0, 3, -1), (-1, -1, 2)))
        self.assertEqual(table(WEB, "d"), ((1, -2, -1), (0, 3, -1), (0, 0, 2)))

    def test_each_number(self):
        for web in some_webs() + [TALL] + chance_webs(90, 30, 8, 40):
            for root in web[0]:
                told = table(web, root)
                others = [place for place in web[0] if place != root]
                self.assertIsInstance(told, tuple)
                self.assertEqual(len(told), len(others))
                for row, start in zip(told, others):
                    self.assertIsInstance(row, tuple)
                    self.assertEqual(len(row), len(others))
                    for number, end in zip(row, others):
                        self.assertIs(number.__class__, int)
                        if start == end:
                            self.assertEqual(number, len([1 for tie in web[1] if tie[2] == end]))
                        else:
                            self.assertEqual(number, -len([1 for tie in web[1] if tie[1:] == (start, end)]))

    def test_doubled(self):
        for web in some_webs() + [TALL]:
            for root in web[0]:
                twice = tuple([tuple([2 * number for number in row]) for row in table(web, root)])
                self.assertEqual(table(doubled(web), root), twice)

    def test_no_web(self):
        for thing in NO_WEBS:
            refused(self, NoWeb, table, thing, "a")
            refused(self, NoWeb, table, thing, thing)

    def test_no_place(self):
        before = table(WEB, "a")
        for thing in NO_NAMES + ["e", "ab"]:
            refused(self, NoPlace, table, WEB, thing)
            self.assertEqual(table(WEB, "a"), before)


class Determinant(unittest.TestCase):
    def test_of_few_rows(self):
        self.assertEqual(determinant(()), 1)
        for number in (0, 1, -1, 7, GREAT, -GREAT):
            self.assertEqual(determinant(((number,),)), number)
        self.assertEqual(determinant(((1, 2), (3, 4))), -2)
        self.assertEqual(determinant(((0, 2), (3, 4))), -6)
        self.assertEqual(determinant(((0, 0), (3, 4))), 0)
        self.assertEqual(determinant(((0, 1), (0, 4))), 0)
        self.assertEqual(determinant(((2, 0, 0), (0, 3, 0), (0, 0, 5))), 30)

    def test_rows_that_must_be_exchanged(self):
        for many in range(1, 8):
            for order in list(itertools.permutations(range(many)))[::max(1, many * many * 7)]:
                rows = tuple([tuple([int(at == column) * (at + 2) for at in range(many)]) for column in order])
                self.assertEqual(determinant(rows), by_choices(rows))
        self.assertEqual(determinant(((0, 1, 0), (0, 0, 1), (1, 0, 0))), 1)
        self.assertEqual(determinant(((0, 0, 1), (0, 1, 0), (1, 0, 0))), -1)
        # Only behind the first row is taken off the second one there is a nought in its place.
        self.assertEqual(determinant(((1, 1, 1), (1, 1, 2), (1, 2, 1))), -1)

    def test_noughts_and_sums(self):
        chance = random.Random(91)
        for many in range(2, 8):
            for step in range(10):
                rows = [[chance.randint(-5, 5) for column in range(many)] for row in range(many)]
                at = chance.randrange(many)
                noughts = rows[:at] + [[0] * many] + rows[at + 1:]
                self.assertEqual(determinant(tuple([tuple(row) for row in noughts])), 0)
                one, other = chance.choice(rows[:at] + rows[at + 1:]), chance.choice(rows[:at] + rows[at + 1:])
                sums = rows[:at] + [[x + y for x, y in zip(one, other)]] + rows[at + 1:]
                self.assertEqual(determinant(tuple([tuple(row) for row in sums])), 0)
                for row in rows:
                    row[at] = 0
                self.assertEqual(determinant(tuple([tuple(row) for row in rows])), 0)

    def test_all_choices(self):
        chance = random.Random(92)
        for many in range(1, 8):
            for step in range(60 if many < 6 else 8 if many < 7 else 3):
                spread = chance.choice([1, 3, 50, GREAT])
                rows = tuple([tuple([chance.randint(-spread, spread) for column in range(many)]) for row in range(many)])
                self.assertEqual(determinant(rows), by_choices(rows))

    def test_seven_rows_with_noughts(self):
        chance = random.Random(93)
        for step in range(6):
            rows = tuple([tuple([chance.choice([0, 0, 0, 1, -2]) for column in range(7)]) for row in range(7)])
            self.assertEqual(determinant(rows), by_choices(rows))

    def test_all_small_ones(self):
        for numbers in itertools.product((-1, 0, 1), repeat=9):
            rows = (numbers[:3], numbers[3:6], numbers[6:])
            self.assertEqual(determinant(rows), by_choices(rows))

    def test_what_is_handed_in_stays(self):
        rows = ((0, 2), (3, 4))
        before = keep(rows)
        self.assertEqual(determinant(rows), determinant(rows))
        self.assertEqual(keep(rows), before)


if __name__ == "__main__":
    unittest.main()
