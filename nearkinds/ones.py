"""Kinds made one by partings, and closed kinds (points 71 to 73).

`merge`, `list_partings`, `keeps_within` and `gather` take what has been looked at already.
"""

from nearkinds.checks import is_rising, is_rising_wholes
from nearkinds.errors import NoClosed, NoParting, TooMany
from nearkinds.tables import count_kinds, kind_shares, put_names, require_steady, require_table, search_break

MOST_PARTED_KINDS = 6


def is_parting_list(table, thing):
    """Whether it is a parting of a table's kinds, of anything."""
    last = count_kinds(table) - 1
    if not isinstance(thing, list) or not all([is_rising_wholes(part, 1, last) for part in thing]):
        return False
    kinds = [kind for part in thing for kind in part]
    return is_rising(thing) and () not in thing and sorted(kinds) == list(range(1, last + 1))


def is_parting(table, thing):
    """Whether it is a parting of the table's kinds, of anything."""
    require_table(table)
    return is_parting_list(table, thing)


def merge(table, parting):
    """The table with each kind but 0 named by the place of its tuple in the parting, from 1."""
    names = {0: 0}
    for name, part in enumerate(parting, start=1):
        for kind in part:
            names[kind] = name
    return put_names(table, names)


def made_one(table, parting):
    """The table that is made by the parting."""
    require_table(table)
    if not is_parting_list(table, parting):
        raise NoParting("this is no parting of the table's kinds")
    return merge(table, parting)


def list_partings(many):
    """All partings of the kinds from 1 to one less than many.

    Each kind in turn comes behind the lesser ones of a tuple, or makes a new tuple at the
    end: so all of it is rising.
    """
    partings = [[]]
    for kind in range(1, many):
        longer = [parting + [(kind,)] for parting in partings]
        for parting in partings:
            for at, part in enumerate(parting):
                longer.append(parting[:at] + [part + (kind,)] + parting[at + 1:])
        partings = longer
    return partings


def steady_partings(table):
    """All partings by which the table is made a steady one, rising."""
    require_table(table)
    many = count_kinds(table)
    if many > MOST_PARTED_KINDS:
        raise TooMany("partings are told of at most six kinds")
    return sorted([parting for parting in list_partings(many) if search_break(merge(table, parting)) is None])


def keeps_within(shares, kinds):
    """Whether the kinds of a steady table that has these shares, taken two by two, lead to none but themselves."""
    return all([
        k in kinds or by_kind[i][j] == 0
        for k, by_kind in enumerate(shares)
        for i in kinds
        for j in kinds
    ])


def closed(table):
    """All closed kinds of the steady table, a rising list."""
    require_steady(table)
    shares = kind_shares(table)
    lots = [(0,)]
    for kind in range(1, len(shares)):
        lots = lots + [kinds + (kind,) for kinds in lots]
    return sorted([kinds for kinds in lots if keeps_within(shares, kinds)])


def require_closed(table, kinds):
    """Refuse what is no closed kinds of a steady table."""
    shares = kind_shares(table)
    if not is_rising_wholes(kinds, 0, len(shares) - 1) or 0 not in kinds or not keeps_within(shares, kinds):
        raise NoClosed("these are no closed kinds of the table")


def gather(table, kinds):
    """The rising list of the lots of places that are near one another by closed kinds."""
    lots = []
    for row in table:
        lot = tuple([place for place, kind in enumerate(row) if kind in kinds])
        if lot not in lots:
            lots.append(lot)
    return lots


def together(table, kinds):
    """The rising list of the rising tuples of places that are near one another by the closed kinds."""
    require_steady(table)
    require_closed(table, kinds)
    return gather(table, kinds)
