"""Weights of whole tables turned about (points 41 to 43).

A fraction is a tuple (top, bottom) in lowest terms, bottom above 0. `lowest`, `turn` and
`keeps_order` take what has been looked at already.
"""

from nearkinds.checks import is_whole_below
from nearkinds.errors import NoNumber
from nearkinds.mixes import count_sizes
from nearkinds.weights import count_often, require_whole, search_weights


def greatest_divisor(one, other):
    """The greatest number that divides both of two numbers, neither below 0, not both 0."""
    while other:
        one, other = other, one % other
    return one


def lowest(top, bottom):
    """The fraction of top and bottom, where bottom is above 0."""
    divisor = greatest_divisor(abs(top), bottom)
    return (top // divisor, bottom // divisor)


def turn(table, found):
    """The turned weights of a whole table that has these weights."""
    table_sizes = count_sizes(table)
    turned = []
    for weights in found:
        often = count_often(table, weights)
        turned.append(tuple([lowest(often * weight, size) for weight, size in zip(weights, table_sizes)]))
    return tuple(turned)


def turned_weights(table):
    """For each of the weights, and each kind, how often they come times the weight, divided by the kind's size."""
    require_whole(table)
    return turn(table, search_weights(table))


def turned_number(table, one, other, third):
    """The turned number of three weights, each told by its place in the list of all weights."""
    require_whole(table)
    found = search_weights(table)
    for place in (one, other, third):
        if not is_whole_below(place, len(found)):
            raise NoNumber("this is no place in the list of all weights")
    table_sizes = count_sizes(table)
    together = 1
    for size in table_sizes:
        together = together * size
    top = 0
    for kind, size in enumerate(table_sizes):
        parts = found[one][kind] * found[other][kind] * found[third][kind]
        top += parts * (together // size) ** 2
    often = count_often(table, found[one]) * count_often(table, found[other])
    return lowest(often * top, len(table) * together ** 2)


def keeps_order(found, turned, order):
    """Whether the table turns to itself by the order, as far as it goes."""
    return all([
        turned[second][i] == (found[first][j], 1)
        for i, first in enumerate(order)
        for j, second in enumerate(order)
    ])


def self_order(table):
    """The first order by which the table turns to itself, None where there is none.

    Orders are built place by place, the lesser ones ahead, so the first one left is the first.
    """
    require_whole(table)
    found = search_weights(table)
    turned = turn(table, found)
    orders = [(0,)]
    for kind in range(1, len(found)):
        longer = [order + (place,) for order in orders for place in range(len(found)) if place not in order]
        orders = [order for order in longer if keeps_order(found, turned, order)]
    return orders[0] if orders else None
