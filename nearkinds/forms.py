"""Tables alike, their forms, and all steady tables of few places (points 91 and 92).

All but `form_of`, `first_order` and `all_steady` take what has been looked at already.
"""

from nearkinds.errors import TooMany
from nearkinds.known import require_number
from nearkinds.tables import require_table, search_break

MOST_FORMED = 6


def require_few(table):
    """Refuse a table of more than 6 places."""
    if len(table) > MOST_FORMED:
        raise TooMany("forms and orders are told of at most 6 places")


def list_orders(many):
    """All tuples with each of so many places once, rising."""
    orders = [()]
    for turn in range(many):
        orders = [order + (place,) for order in orders for place in range(many) if place not in order]
    return orders


def name_anew(table, order):
    """The table with its places in the order, its kinds named as they first come.

    The kind 0 comes ahead of all others and keeps its name.
    """
    names = {}
    return tuple([tuple([names.setdefault(table[a][b], len(names)) for b in order]) for a in order])


def least_alike(table):
    """The least of all tables alike with a table: of each order of places the kinds as they first come are least."""
    return min([name_anew(table, order) for order in list_orders(len(table))])


def form_of(table):
    """The least of all tables alike with the table."""
    require_table(table)
    require_few(table)
    return least_alike(table)


def first_order(one, other):
    """The first order of the one table's places that makes it the other one, kinds named otherwise, None if none does.

    Two tables are one but for the names of their kinds where, named as they first come, they are one.
    """
    require_table(one)
    require_table(other)
    require_few(one)
    require_few(other)
    if len(one) != len(other):
        return None
    wanted = name_anew(other, list(range(len(other))))
    for order in list_orders(len(one)):
        if name_anew(one, order) == wanted:
            return order
    return None


def list_first_rows(many):
    """The first rows of so many places with the places of each kind side by side, kinds named as they come."""
    rows = [(0,)]
    for place in range(1, many):
        rows = [row + (kind,) for row in rows for kind in (row[-1], row[-1] + 1) if kind > 0]
    return rows


def has_room(first, standing, kind):
    """Whether one more of the kind may stand beside these, and no more come than in the first row."""
    return standing.count(kind) < first.count(kind)


def list_next_rows(rows):
    """The rows that may stand behind these: each kind comes as often in each row and column as in the first row."""
    first = rows[0]
    place = len(rows)
    found = [tuple([row[place] for row in rows] + [0])]
    for column in range(place + 1, len(first)):
        above = [row[column] for row in rows]
        left_kinds = [kind for kind in range(1, first[-1] + 1) if has_room(first, above, kind)]
        found = [start + (kind,) for start in found for kind in left_kinds if has_room(first, start, kind)]
    return found


def list_level_tables(many):
    """Tables that have each kind as often in each row, such as steady ones do.

    All steady tables of so many places are alike with some of these.
    """
    tables = [(row,) for row in list_first_rows(many)]
    for place in range(1, many):
        tables = [rows + (row,) for rows in tables for row in list_next_rows(rows)]
    return tables


def all_steady(many):
    """The forms of all steady tables of so many places, a rising list."""
    require_number(many, 1, MOST_FORMED)
    return sorted({least_alike(table) for table in list_level_tables(many) if search_break(table) is None})
