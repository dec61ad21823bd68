"""Tables put together, and parts and rests of steady ones (points 81 and 82).

`pair_places` and `number_anew` take what has been looked at already.
"""

from nearkinds.errors import TooMany
from nearkinds.ones import gather, require_closed
from nearkinds.tables import MOST_PLACES, count_kinds, put_names, require_steady, require_table, take_places


def require_few_together(one, other):
    """Refuse what is no table, of either, then two tables that have more than 8 places together."""
    require_table(one)
    require_table(other)
    if len(one) * len(other) > MOST_PLACES:
        raise TooMany("the tables have more than 8 places together")


def pair_places(one, other):
    """The tuples of a place of the one table and a place of the other, rising."""
    return [(first, second) for first in range(len(one)) for second in range(len(other))]


def put_beside(one, other):
    """The table of tuples of places that are near by the kinds of both."""
    require_few_together(one, other)
    many = count_kinds(other)
    places = pair_places(one, other)
    return tuple([tuple([one[a][c] * many + other[b][e] for c, e in places]) for a, b in places])


def put_within(one, other):
    """The table of tuples of places, near by the other table's kinds where the first places are one."""
    require_few_together(one, other)
    last = count_kinds(other) - 1
    places = pair_places(one, other)
    return tuple([
        tuple([other[b][e] if a == c else one[a][c] + last for c, e in places])
        for a, b in places
    ])


def number_anew(rows, kinds):
    """The rows with the place of each kind among the rising kinds in its stead."""
    return put_names(rows, {kind: at for at, kind in enumerate(kinds)})


def part_of(table, kinds):
    """The table of the places that are near the place 0 by the closed kinds."""
    require_steady(table)
    require_closed(table, kinds)
    return number_anew(take_places(table, gather(table, kinds)[0]), kinds)


def rest_of(table, kinds):
    """The table of the lots of places that are near one another by the closed kinds.

    Two lots whose places are near by some kind in common have all of their kinds in common:
    so the least of these alone tells by which kind the lots are near.
    """
    require_steady(table)
    require_closed(table, kinds)
    lots = gather(table, kinds)
    leasts = [[min([table[a][b] for a in one for b in other]) for other in lots] for one in lots]
    return number_anew(leasts, sorted({kind for row in leasts for kind in row}))
