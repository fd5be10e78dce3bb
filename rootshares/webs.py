"""Webs of places and one-way ties, and what is told of them."""

from rootshares.errors import NoLot, NoNumber, NoPlace, NoTie, NoWeb

LONGEST_NAME = 8


def is_name(thing):
    """Whether a thing is a text of one to eight small letters."""
    if not isinstance(thing, str) or not 1 <= len(thing) <= LONGEST_NAME:
        return False
    return all(["a" <= letter <= "z" for letter in thing])


def is_whole(thing):
    """Whether a thing is a whole number; True and False are none."""
    return isinstance(thing, int) and not isinstance(thing, bool)


def is_rising(names):
    """Whether texts are sorted and unlike."""
    return all([names[at - 1] < names[at] for at in range(1, len(names))])


def is_sorted_names(thing):
    """Whether a thing is a sorted tuple of unlike names, perhaps of none."""
    if not isinstance(thing, tuple):
        return False
    return all([is_name(name) for name in thing]) and is_rising(thing)


def is_among(thing, names):
    """Whether a thing is one of some names."""
    # Only a text is compared: of other things a comparison might fail.
    return isinstance(thing, str) and thing in names


def is_tie_row(thing, places):
    """Whether a thing is a triple (tie, from, to) between two unlike places."""
    if not isinstance(thing, tuple) or len(thing) != 3:
        return False
    name, start, end = thing
    return is_name(name) and is_among(start, places) and is_among(end, places) and start != end


def is_web(thing):
    """Whether a thing is a web."""
    if not isinstance(thing, tuple) or len(thing) != 2:
        return False
    places, rows = thing
    if not is_sorted_names(places) or len(places) == 0 or not isinstance(rows, tuple):
        return False
    return all([is_tie_row(row, places) for row in rows]) and is_rising([row[0] for row in rows])


def tie_names(web):
    """The names of all ties of a web, in order."""
    return [row[0] for row in web[1]]


def rows_of(web, names):
    """The rows of the ties that have one of some names, in order."""
    return [row for row in web[1] if row[0] in names]


def need_web(thing):
    """Refuse what is no web."""
    if not is_web(thing):
        raise NoWeb("this is no web")


def need_number(thing, low, high):
    """Refuse what is no whole number from one to another."""
    if not is_whole(thing) or not low <= thing <= high:
        raise NoNumber("this is no number from " + str(low) + " to " + str(high))


def need_place(web, thing):
    """Refuse what is no place of the web."""
    if not is_among(thing, web[0]):
        raise NoPlace("this is no place of the web")


def need_tie(web, thing):
    """Refuse what is no name of a tie of the web."""
    if not is_among(thing, tie_names(web)):
        raise NoTie("this is no tie of the web")


def need_ties(web, thing):
    """Refuse what is no tuple of names of ties of the web."""
    if not isinstance(thing, tuple):
        raise NoTie("this is no tuple of ties")
    for name in thing:
        need_tie(web, name)


def need_new_tie(web, thing):
    """Refuse what is no name, or the name of a tie that is there."""
    if not is_name(thing) or thing in tie_names(web):
        raise NoTie("this is no name of a new tie")


def need_two_places(web, a, b):
    """Refuse what are not two unlike places of the web."""
    need_place(web, a)
    need_place(web, b)
    if a == b:
        raise NoPlace("both places are one")


def is_lot(web, thing):
    """Whether a thing is a sorted tuple of one or more unlike places of the web."""
    if not is_sorted_names(thing) or len(thing) == 0:
        return False
    return all([place in web[0] for place in thing])


def need_lot(web, thing):
    """Refuse what is no lot of the web."""
    if not is_lot(web, thing):
        raise NoLot("this is no lot of the web")


def leads_into(row, lot):
    """Whether a tie leads to a place of a lot from a place that is not in it."""
    return row[2] in lot and row[1] not in lot


def first_rows(rows, start):
    """The tie rows by which each place is first come to from a place, the nearest places first."""
    found = [start]
    taken = []
    done = 0
    while done < len(found):
        for row in rows:
            if row[1] == found[done] and row[2] not in found:
                found.append(row[2])
                taken.append(row)
        done += 1
    return taken


def come_to(rows, start):
    """The places to which tie rows lead from a place, itself first, as they are found."""
    return [start] + [row[2] for row in first_rows(rows, start)]


def ends(web, tie):
    """Where a tie leads from, and to."""
    need_web(web)
    need_tie(web, tie)
    name, start, end = rows_of(web, [tie])[0]
    return (start, end)


def leading_in(web, lot):
    """The sorted names of the ties that lead into a lot."""
    need_web(web)
    need_lot(web, lot)
    return [row[0] for row in web[1] if leads_into(row, lot)]


def without(web, ties):
    """The web without some ties."""
    need_web(web)
    need_ties(web, ties)
    places, rows = web
    return (places, tuple([row for row in rows if row[0] not in ties]))


def with_tie(web, tie, a, b):
    """The web with one more tie, from a to b."""
    need_web(web)
    need_new_tie(web, tie)
    need_two_places(web, a, b)
    places, rows = web
    return (places, tuple(sorted(rows + ((tie, a, b),))))
