"""Webs and wrong things that several tests use."""

import copy
import itertools
import random

from rootshares.errors import TooFew


class Prickly:
    """A thing that can't be compared, hashed, measured or walked."""

    __hash__ = None

    def fail(self, *others):
        raise RuntimeError("touched")

    __eq__ = __ne__ = __lt__ = __gt__ = __le__ = __ge__ = fail
    __len__ = __iter__ = __bool__ = __contains__ = __getitem__ = fail


def ring():
    """A list that holds itself."""
    rows = []
    rows.append(rows)
    return rows


def deep():
    """Tuples within one another, many times."""
    thing = ()
    for step in range(50):
        thing = (thing,)
    return thing


# None of these is a name, a tuple of names, a triple or a web.
ODD = [
    None, True, False, 0, 1, -1, 10 ** 29, "", "A", "aB", "a1", "1", " ", "a ", " a", "a b", "a\n", "_", "-", "a_",
    "abcdefghi", "\u00e4", "\u03b1", "\uff41", "\u01c5", b"a", b"", bytearray(b"a"), [], ["a"], [[]], {}, {"a": "a"},
    {"a"}, set(), frozenset(), frozenset({"a"}), object(), object, str, len, lambda: "a", range(2), iter("a"),
    (("a",),), ((),), (None,), (1, 2), Prickly(), (Prickly(),), ring(), deep(),
    ValueError("a"), Ellipsis, NotImplemented, slice(1),
]
NO_NAMES = ODD + [(), ("a",), ("a", "b")]

NO_WEBS = ODD + [(), ("a",), ("a", "b"), [("a",), ()], ((), ()), (("a", "b"), (("t", "a", "a"),))]

# Whatever is no whole number.
NO_WHOLES = [thing for thing in NO_NAMES if not isinstance(thing, int) or isinstance(thing, bool)] + ["2", "a", (2,), [2]]

# A diamond with a way back, two alike ties, a tie to the root, and a tie called like a place.
WEB = (
    ("a", "b", "c", "d"),
    (
        ("a", "a", "b"),
        ("ab", "a", "b"),
        ("ac", "a", "c"),
        ("bc", "b", "c"),
        ("bd", "b", "d"),
        ("cd", "c", "d"),
        ("da", "d", "a"),
        ("db", "d", "b"),
    ),
)
# A chain and a branch: a leads to b and e, b to c, c to d; with more ties that no tree of it has.
TALL = (
    ("a", "b", "c", "d", "e"),
    (
        ("ab", "a", "b"),
        ("ac", "a", "c"),
        ("ae", "a", "e"),
        ("bc", "b", "c"),
        ("ca", "c", "a"),
        ("cd", "c", "d"),
        ("db", "d", "b"),
        ("ec", "e", "c"),
        ("xab", "a", "b"),
    ),
)
# What the ties of the diamond cost, and what is no such thing.
COSTS = (3, 5, -2, 0, 7, 10 ** 29, 4, 1)
NO_COSTS = ODD + [
    "ab", (), (1,), COSTS[:-1], COSTS + (1,), list(COSTS), set(COSTS), dict(zip("abcdefgh", COSTS)), (COSTS,), "12345678",
    b"12345678", bytes(8), range(8), WEB, ("a",) * 8, ("1",) * 8, (None,) * 8, (True,) * 8, (False,) * 8,
] + [COSTS[:3] + (thing,) + COSTS[4:] for thing in NO_WHOLES] + [COSTS[:7] + (True,), (False,) + COSTS[1:]]
ALONE = (("a",), ())
APART = (("a", "b"), ())


def lots_of(web):
    """All lots of a web."""
    return [lot for many in range(1, len(web[0]) + 1) for lot in itertools.combinations(web[0], many)]


def some_webs():
    """All webs of three places with at most one tie from each place to each other one, and some more."""
    places = ("a", "b", "c")
    pairs = [(a, b) for a in places for b in places if a != b]
    webs = [WEB, ALONE, APART]
    for many in range(len(pairs) + 1):
        for chosen in itertools.combinations(pairs, many):
            rows = [(a + b, a, b) for a, b in chosen]
            webs.append((places, tuple(sorted(rows))))
    return webs


def walk_back(web, root, ties, place):
    """The way to a place among ties of which at most one leads to each, or None; found from its far end."""
    way = []
    while place != root:
        rows = [row for row in web[1] if row[0] in ties and row[2] == place]
        if len(rows) != 1 or len(way) > len(web[0]):
            return None
        way.insert(0, rows[0][0])
        place = rows[0][1]
    return tuple(way)


def trees_of(web, root):
    """All trees, by trying all choices of ties."""
    found = []
    names = [row[0] for row in web[1]]
    for chosen in itertools.combinations(names, len(web[0]) - 1):
        if all([walk_back(web, root, chosen, place) is not None for place in web[0]]):
            found.append(chosen)
    return found


def some_names(many):
    """So many sorted names."""
    return [first + second for first in "abcdefgh" for second in "abcdefgh"][:many]


def chance_web(chance, places, ties):
    """A web of so many places and ties, the same for the same chance; from its first place most can be come to."""
    names = tuple("abcdefghij"[:places])
    rows = []
    for name in some_names(ties):
        start, end = chance.sample(names, 2)
        if end == names[0]:
            start, end = end, start
        if chance.random() < 0.1:
            start, end = end, start
        rows.append((name, start, end))
    return (names, tuple(rows))


def chance_webs(seed, many, places, ties):
    """So many webs of at most so many places and ties."""
    chance = random.Random(seed)
    webs = []
    for step in range(many):
        size = chance.randint(2, places)
        webs.append(chance_web(chance, size, chance.randint(0, ties)))
    return webs


def into(web, lot):
    """How many ties lead into a lot, counted end by end."""
    return sum([1 for end in lot for row in web[1] if row[2] == end and row[1] not in lot])


def lots_without(web, root):
    """All lots of a web that have not the root."""
    return [lot for lot in lots_of(web) if root not in lot]


def steps_of(web, way):
    """The rows of a way's ties."""
    return [row for name in way for row in web[1] if row[0] == name]


def is_way(web, a, b, thing):
    """Whether a thing is a way from a to b."""
    if not isinstance(thing, tuple):
        return False
    rows = steps_of(web, thing)
    stops = [a] + [row[2] for row in rows]
    starts = [row[1] for row in rows]
    return len(rows) == len(thing) and starts == stops[:-1] and stops[-1] == b and len(set(stops)) == len(stops)


def all_ways(web, a, b):
    """All ways from a to b, by going on along each tie."""
    told = []
    open_ends = [((), [a])]
    while open_ends:
        way, stops = open_ends.pop()
        if stops[-1] == b:
            told.append(way)
            continue
        for name, start, end in web[1]:
            if start == stops[-1] and end not in stops:
                open_ends.append((way + (name,), stops + [end]))
    return told


def renamed(web, places, ties):
    """A web with other names, by two dicts."""
    rows = [(ties[name], places[start], places[end]) for name, start, end in web[1]]
    return (tuple(sorted(places.values())), tuple(sorted(rows)))


def turned_names(web):
    """Two dicts of new names for places and ties, by which all come in the other order."""
    places = dict(zip(web[0], ["p" + letter for letter in "zyxwvutsrq"]))
    return places, dict(zip([row[0] for row in web[1]], some_names(len(web[1]))[::-1]))


def doubled(web):
    """A web with each tie twice."""
    return (web[0], tuple(sorted([(row[0] + more,) + row[1:] for row in web[1] for more in "xy"])))


def share_fault(web, roots, trees):
    """What is wrong with trees, one from each root, no tie in two; "" where nothing is."""
    if not isinstance(trees, list) or len(trees) != len(roots):
        return "no list of so many"
    for root, tree in zip(roots, trees):
        if not isinstance(tree, tuple) or list(tree) != sorted(set(tree)) or len(tree) != len(web[0]) - 1:
            return "no sorted tuple of unlike names"
        if any([walk_back(web, root, tree, place) is None for place in web[0]]):
            return "a place is not reached"
    ties = [tie for tree in trees for tie in tree]
    return "" if len(ties) == len(set(ties)) else "a tie is in two"


def paying(prices, start, end):
    """What a tie from a place to a place pays."""
    total = 0
    for lot, price in prices:
        if end in lot and start not in lot:
            total += price
    return total


def holds(web, root, costs, trees, prices, rents):
    """Whether prices and rents are as told, asked point by point of pairs of lots, of ties, and whole numbers."""
    lots = [set(lot) for lot, price in prices]
    ties = [tie for tree in trees for tie in tree]
    points = [
        list(prices) == sorted(prices), len(set([lot for lot, price in prices])) == len(prices),
        all([root not in lot for lot in lots]), all([price != 0 for lot, price in prices]),
        all([price > 0 for lot, price in prices if len(lot) >= 2]),
        all([not one & other or one <= other or other <= one for one in lots for other in lots]),
        list(rents) == sorted(rents), len(set([tie for tie, rent in rents])) == len(rents),
        all([tie in ties and rent > 0 for tie, rent in rents])]
    for (name, start, end), cost in zip(web[1], costs):
        less = paying(prices, start, end) - dict(rents).get(name, 0)
        points.append(end == root or less <= cost)
        points.append(name not in ties or less == cost)
    for lot, price in prices:
        led = [row for row in web[1] if row[0] in ties and row[2] in lot and row[1] not in lot]
        points.append(len(lot) == 1 or len(led) == len(trees))
    return all(points)


def cost_together(web, costs, trees):
    """What trees cost together."""
    each = dict(zip([row[0] for row in web[1]], costs))
    return sum([each[tie] for tree in trees for tie in tree])


def cheapest_sets(web, costs, trees, many):
    """What so many of some trees without a tie in common cost at least, by trying all; None where there are none."""
    if many == 0:
        return 0
    best = None
    for at, tree in enumerate(trees):
        others = [other for other in trees[at + 1:] if not set(other) & set(tree)]
        rest = cheapest_sets(web, costs, others, many - 1)
        if rest is not None:
            total = cost_together(web, costs, [tree]) + rest
            best = total if best is None else min(best, total)
    return best


def some_costs(chance, many):
    """So many costs, of one sort or another: alike, few unlike ones, below 0 too, of up to thirty figures."""
    sort = chance.choice(["alike", "few", "below", "great", "mixed"])
    if sort == "alike":
        return (chance.choice([-2, 0, 1, 10 ** 30 - 1]),) * many
    if sort == "few":
        return tuple([chance.randint(0, 2) for step in range(many)])
    if sort == "below":
        return tuple([chance.randint(-20, 20) for step in range(many)])
    if sort == "great":
        return tuple([chance.randint(-(10 ** 30) + 1, 10 ** 30 - 1) for step in range(many)])
    return tuple([chance.choice([0, 1, -1, 5, chance.randint(-9, 9), chance.randint(-(10 ** 29), 10 ** 29)])
                  for step in range(many)])


def told_few(deed, *given):
    """The lot of the refusal TooFew that a call comes to, or None where it comes to none."""
    try:
        deed(*given)
    except TooFew as few:
        return few.lot
    return None


def refused(case, error, deed, *given):
    """Ask that a call is refused by that very class, and changes nothing that it was handed."""
    before = [keep(thing) for thing in given]
    with case.assertRaises(error) as caught:
        deed(*given)
    case.assertEqual(caught.exception.__class__.__name__, error.__name__)
    case.assertEqual([keep(thing) for thing in given], before)


def keep(thing):
    """What a thing looks like, to be held against it later."""
    if isinstance(thing, (tuple, list)):
        return (thing.__class__.__name__, [keep(one) if one is not thing else "itself" for one in thing])
    if isinstance(thing, (str, bytes, bytearray, int, dict, set, frozenset, range)):
        return repr(copy.copy(thing))
    return id(thing)
