"""Lots of places that are near by told kinds alone, and papers that bound them (points 51 to 53).

`joins`, `search_greatest`, `count_shown` and `small_mixes` take what has been looked at already.
"""

from nearkinds.checks import is_rising_wholes, is_wholes
from nearkinds.errors import NoKinds, NoLot, NoPaper, TooMany
from nearkinds.mixes import multiply
from nearkinds.tables import count_kinds, kind_shares, require_steady, require_table

MOST_MIXES = 4
FARTHEST = 99
MOST_KINDS = 4
SMALL = 3


def require_lot(table, lot):
    """Refuse what is no lot of the table."""
    if not is_rising_wholes(lot, 0, len(table) - 1):
        raise NoLot("this is no lot of the table")


def require_told_kinds(table, kinds):
    """Refuse what is no told kinds of the table."""
    if not is_rising_wholes(kinds, 1, count_kinds(table) - 1):
        raise NoKinds("these are no told kinds of the table")


def spread(table, lot):
    """The list, kind by kind, of how many tuples of two places of the lot are near by it."""
    require_table(table)
    require_lot(table, lot)
    counts = [0] * count_kinds(table)
    for a in lot:
        for b in lot:
            counts[table[a][b]] += 1
    return counts


def joins(table, kinds, lot, place):
    """Whether a place is near each place of a lot by one of the kinds."""
    return all([table[other][place] in kinds for other in lot])


def is_free(table, kinds, lot):
    """Whether any two unlike places of the lot are near by one of the told kinds."""
    require_table(table)
    require_told_kinds(table, kinds)
    require_lot(table, lot)
    return all([joins(table, kinds, lot[:at], place) for at, place in enumerate(lot)])


def search_greatest(table, kinds):
    """All free lots of as many places as there can be, rising.

    What is left of a free lot without its last place is free: so lots that grow by one
    greater place at a time miss none, and they stay in their order.
    """
    lots = []
    longer = [(place,) for place in range(len(table))]
    while longer:
        lots = longer
        longer = [
            lot + (place,)
            for lot in lots
            for place in range(lot[-1] + 1, len(table))
            if joins(table, kinds, lot, place)
        ]
    return lots


def most(table, kinds):
    """The greatest number of places of a lot that is free for the told kinds."""
    require_table(table)
    require_told_kinds(table, kinds)
    return len(search_greatest(table, kinds)[0])


def greatest(table, kinds):
    """All lots of so many places that are free for the told kinds, a rising list."""
    require_table(table)
    require_told_kinds(table, kinds)
    return search_greatest(table, kinds)


def count_shown(shares, kinds, mixes):
    """What mixes show of told kinds of a steady table that has these shares, None where they show nothing."""
    squares = [multiply(shares, mix, mix) for mix in mixes]
    summed = [sum([numbers[kind] for numbers in squares]) for kind in range(len(shares))]
    least = min([-summed[kind] for kind in kinds], default=0)
    if least <= 0:
        return None
    return summed[0] // least + 1


def has_paper_form(table, thing):
    """Whether it is a tuple of one to four mixes whose numbers are each from -99 to 99, of anything."""
    if not isinstance(thing, tuple) or not 1 <= len(thing) <= MOST_MIXES:
        return False
    if not all([is_wholes(mix, count_kinds(table)) for mix in thing]):
        return False
    return all([-FARTHEST <= part <= FARTHEST for mix in thing for part in mix])


def is_paper(table, kinds, thing):
    """Whether it is a paper of the steady table and the told kinds, of anything."""
    require_steady(table)
    require_told_kinds(table, kinds)
    return has_paper_form(table, thing) and count_shown(kind_shares(table), kinds, thing) is not None


def shows(table, kinds, paper):
    """What the paper shows: no lot that is free for the told kinds has more places."""
    if not is_paper(table, kinds, paper):
        raise NoPaper("this is no paper of the table and the told kinds")
    return count_shown(kind_shares(table), kinds, paper)


def small_mixes(many):
    """All mixes of so many kinds with numbers from -3 to 3, rising."""
    mixes = [()]
    for kind in range(many):
        mixes = [mix + (part,) for mix in mixes for part in range(-SMALL, SMALL + 1)]
    return mixes


def best_mix(table, kinds):
    """Of the small mixes that are a paper alone the first one that shows the least, None where none is."""
    require_steady(table)
    if count_kinds(table) > MOST_KINDS:
        raise TooMany("the best mix is told of at most four kinds")
    require_told_kinds(table, kinds)
    if kinds == ():
        raise NoKinds("one kind at least is to be told")
    shares = kind_shares(table)
    best = None
    least = None
    for mix in small_mixes(count_kinds(table)):
        shown = count_shown(shares, kinds, (mix,))
        if shown is not None and (least is None or shown < least):
            best = mix
            least = shown
    return best
