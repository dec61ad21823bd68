"""The weights that the kinds of a steady table have in common (points 31 to 33).

`search_weights`, `count_often` and `worth` take what has been looked at already.
"""

from nearkinds.checks import is_wholes
from nearkinds.errors import NoNumbers, NotWhole, NoWeights
from nearkinds.mixes import count_sizes, require_mix
from nearkinds.tables import count_kinds, kind_shares, require_steady


def fits(shares, start):
    """Whether numbers for the first kinds keep the rule of weights as far as they can be held to it.

    A rule that also asks for the weight of a later kind says nothing yet; numbers for all
    kinds are held to every rule.
    """
    some = len(start)
    for i in range(some):
        for j in range(some):
            later = [by_kind[i][j] for by_kind in shares[some:]]
            now = [by_kind[i][j] * weight for by_kind, weight in zip(shares, start)]
            if not any(later) and start[i] * start[j] != sum(now):
                return False
    return True


def is_weights_tuple(table, thing):
    """Whether it is weights of a steady table, of anything."""
    if not is_wholes(thing, count_kinds(table)):
        return False
    return thing[0] == 1 and fits(kind_shares(table), thing)


def are_weights(table, thing):
    """Whether it is weights of the table, of anything."""
    require_steady(table)
    return is_weights_tuple(table, thing)


def require_weights(table, weights):
    """Refuse what is no weights of a steady table."""
    if not is_weights_tuple(table, weights):
        raise NoWeights("these are no weights of the table")


def search_weights(table):
    """All weights of a steady table, falling.

    No weight is farther from 0 than the size of its kind, so no others are tried; the
    greater ones are tried first, which makes the list a falling one.
    """
    shares = kind_shares(table)
    starts = [(1,)]
    for size in count_sizes(table)[1:]:
        longer = [start + (weight,) for start in starts for weight in range(size, -size - 1, -1)]
        starts = [start for start in longer if fits(shares, start)]
    return starts


def all_weights(table):
    """The falling list of all weights of the table."""
    require_steady(table)
    return search_weights(table)


def is_whole_table(table):
    """Whether the table has as many weights as kinds."""
    require_steady(table)
    return len(search_weights(table)) == count_kinds(table)


def require_whole(table):
    """Refuse what is no table, then what is not steady, then what is not whole."""
    if not is_whole_table(table):
        raise NotWhole("the table has not as many weights as kinds")


def count_often(table, weights):
    """How often weights of a steady table come."""
    top = 0
    bottom = 1
    for size, weight in zip(count_sizes(table), weights):
        top = top * size + weight * weight * bottom
        bottom = bottom * size
    return len(table) * bottom // top


def how_often(table, weights):
    """How often the weights come."""
    require_steady(table)
    require_weights(table, weights)
    return count_often(table, weights)


def worth(weights, mix):
    """The worth of a mix by weights."""
    return sum([weight * part for weight, part in zip(weights, mix)])


def worth_by(table, weights, mix):
    """The worth of the mix by the weights."""
    require_steady(table)
    require_weights(table, weights)
    require_mix(table, mix)
    return worth(weights, mix)


def mix_by(table, numbers):
    """The mix that has these worths by all weights in order, None where it is not of whole numbers.

    Over all weights, how often they come times the weights of two kinds, added, comes to 0 for
    unlike kinds, and to many times the size for a kind with itself. So the worths, each taken as
    often as its weights come, times the weights of a kind, come to the mix's number so many times.
    """
    require_whole(table)
    found = search_weights(table)
    if not is_wholes(numbers, len(found)):
        raise NoNumbers("this is no tuple of as many whole numbers as there are weights")
    parts = [count_often(table, weights) * wanted for weights, wanted in zip(found, numbers)]
    mix = []
    for kind, size in enumerate(count_sizes(table)):
        total = sum([part * weights[kind] for part, weights in zip(parts, found)])
        if total % (len(table) * size) != 0:
            return None
        mix.append(total // (len(table) * size))
    return tuple(mix)
