"""Numbers of steady tables, and mixes of kinds (points 21 to 23).

`count_sizes` and `multiply` take what has been looked at already.
"""

from nearkinds.checks import is_whole_below, is_wholes
from nearkinds.errors import NoMix, NoNumber
from nearkinds.tables import count_kinds, kind_shares, put_names, require_kind, require_steady, require_table

MOST_TIMES = 8


def number(table, i, j, k):
    """How many places are near a by i and near b by j, where a and b are near by k."""
    require_steady(table)
    require_kind(table, i)
    require_kind(table, j)
    require_kind(table, k)
    return kind_shares(table)[k][i][j]


def count_sizes(table):
    """How many places are near a place of a steady table by each kind: of any place as of the first."""
    return [table[0].count(kind) for kind in range(count_kinds(table))]


def sizes(table):
    """The list, kind by kind, of how many places are near a place by it."""
    require_steady(table)
    return count_sizes(table)


def is_mix(table, thing):
    """Whether it is a mix of the table, of anything."""
    require_table(table)
    return is_wholes(thing, count_kinds(table))


def require_mix(table, mix):
    """Refuse what is no mix of the table."""
    if not is_wholes(mix, count_kinds(table)):
        raise NoMix("this is no mix of the table")


def square(table, mix):
    """The table's rows with the mix's number for the kind in the place of each kind."""
    require_table(table)
    require_mix(table, mix)
    return put_names(table, mix)


def product(table, one, other):
    """The mix whose square is the product of the squares, the first one ahead."""
    require_steady(table)
    require_mix(table, one)
    require_mix(table, other)
    return multiply(kind_shares(table), one, other)


def multiply(shares, one, other):
    """The product of two mixes of a steady table that has these shares, kind by kind."""
    return tuple([multiply_at(by_kind, one, other) for by_kind in shares])


def multiply_at(by_kind, one, other):
    """The number of the product at the kind that has these shares."""
    return sum([
        first * second * many
        for first, row in zip(one, by_kind)
        for second, many in zip(other, row)
    ])


def added(table, one, other):
    """The mix whose square is the sum of the squares."""
    require_steady(table)
    require_mix(table, one)
    require_mix(table, other)
    return tuple([first + second for first, second in zip(one, other)])


def power(table, mix, times):
    """The mix taken by itself so many times, from 0 to 8."""
    require_steady(table)
    require_mix(table, mix)
    if not is_whole_below(times, MOST_TIMES + 1):
        raise NoNumber("a mix is taken by itself from 0 to 8 times")
    shares = kind_shares(table)
    result = tuple([1] + [0] * (len(mix) - 1))
    for turn in range(times):
        result = multiply(shares, result, mix)
    return result
