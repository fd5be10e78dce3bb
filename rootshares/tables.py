"""The table of a web from a root, and determinants."""

from rootshares.webs import need_place, need_web


def table_of(places, root, rows):
    """A row and a column for each place but the root, of how many tie rows lead there and between them."""
    at = {place: number for number, place in enumerate([one for one in places if one != root])}
    told = [[0] * len(at) for place in at]
    for name, start, end in rows:
        if end != root:
            told[at[end]][at[end]] += 1
            if start != root:
                told[at[start]][at[end]] -= 1
    return tuple([tuple(row) for row in told])


def table(web, root):
    """The table of a web and a root."""
    need_web(web)
    need_place(web, root)
    return table_of(web[0], root, web[1])


def cleared(left, last):
    """The rows below the first one without their first column, by which the first row is taken off them."""
    first = left[0]
    told = []
    for row in left[1:]:
        # Each is a determinant of a part of the rows, so the division leaves nothing over.
        told.append([(one * first[0] - row[0] * other) // last for one, other in zip(row[1:], first[1:])])
    return told


def determinant(rows):
    """The determinant of as many rows as columns; 1 of no rows."""
    left = list(rows)
    sign = 1
    last = 1
    while len(left) > 0:
        filled = [at for at, row in enumerate(left) if row[0] != 0]
        if len(filled) == 0:
            return 0
        if filled[0] != 0:
            left[0], left[filled[0]] = left[filled[0]], left[0]
            sign = -sign
        first = left[0][0]
        left = cleared(left, last)
        last = first
    return sign * last
