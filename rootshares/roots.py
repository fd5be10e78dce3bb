"""Trees from several roots, each from its own, and what lots need for them."""

from rootshares.errors import NoRoots
from rootshares.shares import MOST_TREES, need_of, trees_from
from rootshares.webs import is_among, leading_in, need_lot, need_web


def need_roots(web, thing):
    """Refuse what is no tuple of at most six places of the web."""
    if not isinstance(thing, tuple) or len(thing) > MOST_TREES:
        raise NoRoots("this is no tuple of roots")
    if not all([is_among(place, web[0]) for place in thing]):
        raise NoRoots("one of these is no place of the web")


def lack(web, roots, lot):
    """How many ties fewer lead into a lot than trees from the roots need there; below 0 where more do."""
    need_web(web)
    need_roots(web, roots)
    need_lot(web, lot)
    return need_of(roots, lot) - len(leading_in(web, lot))


def shares_from(web, roots):
    """A tree from each of the roots, in their order, no tie in two of them."""
    need_web(web)
    need_roots(web, roots)
    return trees_from(web, roots)
