"""Shares parted along a lot that is just filled, and put together again."""

from rootshares.errors import NoLot, NoPlace, NoTree
from rootshares.filled import shrunk, within
from rootshares.shares import is_shares
from rootshares.webs import is_name, leading_in, need_lot, need_place, need_web, tie_names


def need_lot_without(web, root, thing):
    """Refuse what is no lot of the web, or one that has the root."""
    need_lot(web, thing)
    if root in thing:
        raise NoLot("this lot has the root")


def need_shares(web, root, thing):
    """Refuse what is no list of shares of the web."""
    if not is_shares(web, root, thing):
        raise NoTree("these are no shares of the web from the root")


def kept_ties(trees, names):
    """Of each tree the ties that are among some names."""
    return [tuple([tie for tie in tree if tie in names]) for tree in trees]


def parted(web, root, lot, trees):
    """The shares' ties of the web shrunk by a lot, and those of the web within it."""
    need_web(web)
    need_place(web, root)
    need_lot_without(web, root, lot)
    need_shares(web, root, trees)
    if len(leading_in(web, lot)) != len(trees):
        raise NoLot("other than as many ties lead into the lot as there are trees")
    # Names that these webs may have: a place of the lot for the lot, the root for all others.
    outer = kept_ties(trees, tie_names(shrunk(web, lot, lot[0])))
    inner = kept_ties(trees, tie_names(within(web, lot, root)))
    return (outer, inner)


def need_halves(web, root, lot, outer, inner, name):
    """Refuse what are not as many shares of both webs as ties lead into the lot."""
    need_shares(shrunk(web, lot, name), root, outer)
    need_shares(within(web, lot, name), name, inner)
    many = len(leading_in(web, lot))
    if len(outer) != many or len(inner) != many:
        raise NoTree("these are other than as many shares as ties lead into the lot")


def joined(tree, inner, entering):
    """A tree's ties and those of the inner one that has the same entering tie."""
    shared = [tie for tie in tree if tie in entering][0]
    other = [one for one in inner if shared in one][0]
    return tuple(sorted(list(tree) + [tie for tie in other if tie != shared]))


def together(web, root, lot, outer, inner, name):
    """The shares of the web that come of those of the web shrunk by a lot and of the web within it."""
    need_web(web)
    need_place(web, root)
    if not is_name(name) or name in web[0]:
        raise NoPlace("this is no name of a place for both webs")
    need_lot_without(web, root, lot)
    need_halves(web, root, lot, outer, inner, name)
    entering = leading_in(web, lot)
    return [joined(tree, inner, entering) for tree in outer]
