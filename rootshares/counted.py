"""How many trees there are, and which one has which number, without listing them."""

from rootshares.errors import TooMany
from rootshares.tables import determinant, table_of
from rootshares.trees import need_tree
from rootshares.webs import need_number, need_place, need_ties, need_web, rows_of

MOST_LISTED = 100


def count_of(places, root, rows):
    """How many trees from a root there are along tie rows."""
    return determinant(table_of(places, root, rows))


def only(rows, row):
    """The tie rows without those that lead where a row leads to, but itself."""
    return [one for one in rows if one == row or one[2] != row[2]]


def count_by(places, root, rows, row):
    """How many trees along tie rows have a certain one of them."""
    return 0 if row[2] == root else count_of(places, root, only(rows, row))


def tree_of_number(web, root, number):
    """The tree at a number of the sorted order of all trees."""
    places, rows = web
    tree = []
    behind = number
    for row in web[1]:
        if row in rows:
            # In sorted order those that have this tie, of all that are left, go ahead of those that have not.
            having = count_by(places, root, rows, row)
            if behind < having:
                tree.append(row[0])
                rows = only(rows, row)
            else:
                behind -= having
                rows = [one for one in rows if one != row]
    return tuple(tree)


def count(web, root):
    """How many trees from the root there are."""
    need_web(web)
    need_place(web, root)
    return count_of(web[0], root, web[1])


def all_trees(web, root):
    """The sorted list of all trees from the root, if there are not too many."""
    many = count(web, root)
    if many > MOST_LISTED:
        raise TooMany("there are more than " + str(MOST_LISTED) + " trees")
    return [tree_of_number(web, root, number) for number in range(many)]


def count_with(web, root, some, others):
    """How many trees from the root have all of some ties and none of some others."""
    need_web(web)
    need_place(web, root)
    need_ties(web, some)
    need_ties(web, others)
    rows = [row for row in web[1] if row[0] not in others]
    for row in rows_of(web, some):
        if row[2] == root:
            return 0
        rows = only(rows, row)
    return count_of(web[0], root, rows)


def tree_at(web, root, number):
    """The tree at a number of the sorted order of all trees, from 0 on."""
    need_number(number, 0, count(web, root) - 1)
    return tree_of_number(web, root, number)


def number_of(web, root, tree):
    """The number of a tree in the sorted order of all trees."""
    need_web(web)
    need_place(web, root)
    need_tree(web, root, tree)
    places, rows = web
    number = 0
    for row in web[1]:
        if row[0] in tree:
            rows = only(rows, row)
        elif row in rows:
            number += count_by(places, root, rows, row)
            rows = [one for one in rows if one != row]
    return number
