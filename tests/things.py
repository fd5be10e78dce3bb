"""Webs and wrong things that several tests use."""

import copy
import itertools


class Prickly:
    """A thing that can't be compared, hashed, measured or walked."""

    __hash__ = None

    def fail(self, *others):
        raise RuntimeError("touched")

    __eq__ = __ne__ = __lt__ = __gt__ = __le__ = __ge__ = fail
    __len__ = __iter__ = __bool__ = __contains__ = __getitem__ = fail


def ring():
    """A list that holds itself."""
    rows = []
    rows.append(rows)
    return rows


def deep():
    """Tuples within one another, many times."""
    thing = ()
    for step in range(50):
        thing = (thing,)
    return thing


# None of these is a name, a tuple of names, a triple or a web.
ODD = [
    None, True, False, 0, 1, -1, 10 ** 29, "", "A", "aB", "a1", "1", " ", "a ", " a", "a b", "a\n", "_", "-", "a_",
    "abcdefghi", "\u00e4", "\u03b1", "\uff41", "\u01c5", b"a", b"", bytearray(b"a"), [], ["a"], [[]], {}, {"a": "a"},
    {"a"}, set(), frozenset(), frozenset({"a"}), object(), object, str, len, lambda: "a", range(2), iter("a"),
    (("a",),), ((),), (None,), (1, 2), Prickly(), (Prickly(),), ring(), deep(),
    ValueError("a"), Ellipsis, NotImplemented, slice(1),
]
NO_NAMES = ODD + [(), ("a",), ("a", "b")]

# A diamond with a way back, two alike ties, a tie to the root, and a tie called like a place.
WEB = (
    ("a", "b", "c", "d"),
    (
        ("a", "a", "b"),
        ("ab", "a", "b"),
        ("ac", "a", "c"),
        ("bc", "b", "c"),
        ("bd", "b", "d"),
        ("cd", "c", "d"),
        ("da", "d", "a"),
        ("db", "d", "b"),
    ),
)
ALONE = (("a",), ())
APART = (("a", "b"), ())


def lots_of(web):
    """All lots of a web."""
    return [lot for many in range(1, len(web[0]) + 1) for lot in itertools.combinations(web[0], many)]


def some_webs():
    """All webs of three places with at most one tie from each place to each other one, and some more."""
    places = ("a", "b", "c")
    pairs = [(a, b) for a in places for b in places if a != b]
    webs = [WEB, ALONE, APART]
    for many in range(len(pairs) + 1):
        for chosen in itertools.combinations(pairs, many):
            rows = [(a + b, a, b) for a, b in chosen]
            webs.append((places, tuple(sorted(rows))))
    return webs


def refused(case, error, deed, *given):
    """Ask that a call is refused by that very class, and changes nothing that it was handed."""
    before = [keep(thing) for thing in given]
    with case.assertRaises(error) as caught:
        deed(*given)
    case.assertEqual(caught.exception.__class__.__name__, error.__name__)
    case.assertEqual([keep(thing) for thing in given], before)


def keep(thing):
    """What a thing looks like, to be held against it later."""
    if isinstance(thing, (tuple, list)):
        return (thing.__class__.__name__, [keep(one) if one is not thing else "itself" for one in thing])
    if isinstance(thing, (str, bytes, bytearray, int, dict, set, frozenset, range)):
        return repr(copy.copy(thing))
    return id(thing)
