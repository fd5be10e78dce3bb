"""Asked again, in another run of Python too, all is told alike, also what is open."""

import os
import subprocess
import sys
import unittest

HERE = os.path.dirname(os.path.abspath(__file__))
ASK = """
from rootshares.cheapest import cheapest
from rootshares.counted import all_trees, count, count_with, number_of, tree_at
from rootshares.exchanges import reads_shares
from rootshares.filled import just_filled, shrunk, within
from rootshares.gluing import parted, together
from rootshares.keeping import Keeper
from rootshares.many import cheapest_shares
from rootshares.mends import mended
from rootshares.prices import cost_of, pays, reads_prices
from rootshares.reached import fewest, first_tree, reached
from rootshares.roots import lack, shares_from
from rootshares.shares import least, shares
from rootshares.tables import determinant, table
from rootshares.ways import ways
from rootshares.webtexts import read_trees, read_web, trees_text, web_text
from things import TALL, WEB, chance_webs, told_few

for web in [WEB, TALL] + chance_webs(30, 8, 8, 40):
    a, b = web[0][0], web[0][-1]
    print(read_web(web_text(web)), reached(web, a), fewest(web, a, b), ways(web, a, b), least(web, a))
    print(told_few(first_tree, web, a) or first_tree(web, a))
    for many in range(7):
        print(told_few(shares, web, a, many) or shares(web, a, many), mended(web, a, many))
    roots = (a, b, a)
    print(told_few(shares_from, web, roots) or shares_from(web, roots), lack(web, roots, (b,)))
    costs = tuple(range(len(web[1])))
    print([(cost_of(web, costs, (row[0],)), pays(web, (((b,), 3),), row[0])) for row in web[1]])
    if told_few(first_tree, web, a) is None:
        print(reads_prices(web, a, costs, first_tree(web, a), ()))
        print(cheapest(web, a, costs), cheapest(web, a, (1,) * len(costs)))
    print(read_trees(trees_text(shares(web, a, 0))))

for web in [WEB, TALL] + chance_webs(31, 8, 6, 40):
    a, b = web[0][0], web[0][-1]
    for costs in (tuple(range(len(web[1]))), (1,) * len(web[1])):
        for many in range(1, 7):
            few = told_few(cheapest_shares, web, a, many, costs)
            told = few or cheapest_shares(web, a, many, costs)
            print(told, few or reads_shares(web, a, costs, *told))
        keeper = Keeper(web, a, 3, costs)
        print(keeper.trees(), keeper.put("zz", a, b, 1), keeper.put("zy", b, a, 1), keeper.take("zz"), keeper.undo())
        print(keeper.web(), keeper.costs(), keeper.trees(), keeper.cost())
    print(table(web, a), determinant(table(web, a)), count_with(web, a, (), tuple([row[0] for row in web[1][:1]])))
    numbers = range(0, count(web, a), 1 + count(web, a) // 5)
    print([(tree_at(web, a, number), number_of(web, a, tree_at(web, a, number))) for number in numbers])
    print(all_trees(web, a) if count(web, a) <= 100 else count(web, a))
    many = min(6, least(web, a)[0])
    for lot in just_filled(web, a, many):
        halves = parted(web, a, lot, shares(web, a, many))
        print(lot, shrunk(web, lot, "m"), within(web, lot, "m"), halves, together(web, a, lot, *halves, "m"))
"""


def asked(seed):
    """What a run of its own tells, with the seed by which Python orders texts in sets."""
    paths = os.pathsep.join([os.path.dirname(HERE), HERE])
    settings = dict(os.environ, PYTHONHASHSEED=seed, PYTHONPATH=paths, PYTHONDONTWRITEBYTECODE="1")
    done = subprocess.run([sys.executable, "-c", ASK], env=settings, capture_output=True, text=True, check=True)
    return done.stdout


class Alike(unittest.TestCase):
    def test_in_other_runs(self):
        first = asked("0")
        self.assertGreater(len(first), 1000)
        for seed in ("1", "2", "77"):
            self.assertEqual(asked(seed), first)


if __name__ == "__main__":
    unittest.main()
