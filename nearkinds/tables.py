"""Tables of kinds: what one is, its shares, and what breaks it (points 11 to 13).

Functions whose names begin with `require` refuse what is handed in and tell nothing.
Those without a promise in the document (`count_kinds`, `put_names`, `take_places`, `count_shares`,
`first_pairs`, `kind_shares`, `search_break`) take what has been looked at already.
"""

from nearkinds.checks import is_whole_below, is_wholes_below
from nearkinds.errors import NoKind, NoPlace, NoTable, NotSteady

MOST_PLACES = 8


def is_table(thing):
    """Whether it is a table, of anything."""
    if not isinstance(thing, tuple) or not 1 <= len(thing) <= MOST_PLACES:
        return False
    many = len(thing)
    if not all([is_wholes_below(row, many, many) for row in thing]):
        return False
    return is_even(thing) and leaves_no_kind_out(thing)


def is_even(rows):
    """Whether 0 stands just where a place meets itself, and the same both ways round."""
    for a, row in enumerate(rows):
        for b, kind in enumerate(row):
            if (kind == 0) != (a == b) or rows[b][a] != kind:
                return False
    return True


def leaves_no_kind_out(rows):
    """Whether all numbers up to the greatest one stand somewhere."""
    standing = [kind for row in rows for kind in row]
    return all([kind in standing for kind in range(max(standing))])


def require_table(table):
    """Refuse what is no table."""
    if not is_table(table):
        raise NoTable("this is no table")


def count_kinds(table):
    """How many kinds a table has, 0 too."""
    return max([max(row) for row in table]) + 1


def kinds_many(table):
    """How many kinds a table has, 0 too."""
    require_table(table)
    return count_kinds(table)


def put_names(rows, names):
    """The rows with names[kind] in the place of each kind."""
    return tuple([tuple([names[kind] for kind in row]) for row in rows])


def take_places(table, places):
    """The rows of a table for these places alone, in this order."""
    return tuple([tuple([table[a][b] for b in places]) for a in places])


def require_place(table, place):
    """Refuse what is no place of the table."""
    if not is_whole_below(place, len(table)):
        raise NoPlace("the table has no such place")


def require_kind(table, kind):
    """Refuse what is no kind of the table."""
    if not is_whole_below(kind, count_kinds(table)):
        raise NoKind("the table has no such kind")


def near_of(table, place, kind):
    """The rising list of the places near the place by the kind."""
    require_table(table)
    require_place(table, place)
    require_kind(table, kind)
    return [other for other, by in enumerate(table[place]) if by == kind]


def shares_of(table, one, other):
    """For each kind i and each kind j how many places are near one by i and other by j."""
    require_table(table)
    require_place(table, one)
    require_place(table, other)
    return count_shares(table, one, other)


def count_shares(table, one, other):
    """The shares of two places of a table."""
    many = count_kinds(table)
    counts = [[0] * many for kind in range(many)]
    for i, j in zip(table[one], table[other]):
        counts[i][j] += 1
    return tuple([tuple(row) for row in counts])


def first_pairs(table):
    """For each kind the first two places that are near by it, in the order of these pairs."""
    firsts = {}
    for a, row in enumerate(table):
        for b, kind in enumerate(row):
            firsts.setdefault(kind, (a, b))
    return firsts


def kind_shares(table):
    """For each kind, in order, the shares of two places near by it: of a steady table, of any two."""
    firsts = first_pairs(table)
    pairs = [firsts[kind] for kind in range(count_kinds(table))]
    return [count_shares(table, a, b) for a, b in pairs]


def search_break(table):
    """The first break of a table, None where it is steady.

    Where two pairs of a kind are unlike, the kind's first pair is unlike one of them: so the
    first break begins with the first pair of some kind, and no other beginning is tried.
    """
    for kind, (a, b) in first_pairs(table).items():
        shares = count_shares(table, a, b)
        for c, row in enumerate(table):
            for e, by in enumerate(row):
                if by == kind and count_shares(table, c, e) != shares:
                    return (a, b, c, e)
    return None


def first_break(table):
    """The first break of a table, as tuples compare, None where it is steady."""
    require_table(table)
    return search_break(table)


def is_steady(table):
    """Whether the shares of any two places hang on their kind alone."""
    require_table(table)
    return search_break(table) is None


def is_break(table, thing):
    """Whether it is a break of the table, of anything."""
    require_table(table)
    if not is_wholes_below(thing, 4, len(table)):
        return False
    a, b, c, e = thing
    return table[a][b] == table[c][e] and count_shares(table, a, b) != count_shares(table, c, e)


def require_steady(table):
    """Refuse what is no table, then what is not steady."""
    require_table(table)
    if search_break(table) is not None:
        raise NotSteady("the table is not steady")
