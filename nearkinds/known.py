"""Tables that are known, and of words what is told by rule alone (points 61 to 63).

`raised`, `count_lots`, `list_words`, `count_unlike`, `pair_kind` and `block_kind` take what has
been looked at already.
"""

from nearkinds.checks import is_whole_between
from nearkinds.errors import NoKind, NoNumber
from nearkinds.tables import MOST_PLACES

MOST_THINGS = 4
MOST_SIGNS_BY_RULE = 12
MOST_NUMBER_BY_RULE = 9


def require_number(number, least, greatest):
    """Refuse what is no whole number from the least to the greatest."""
    if not is_whole_between(number, least, greatest):
        raise NoNumber(f"this is no whole number from {least} to {greatest}")


def require_kind_to(kind, greatest):
    """Refuse what is no kind from 0 to the greatest."""
    if not is_whole_between(kind, 0, greatest):
        raise NoKind(f"this is no kind from 0 to {greatest}")


def raised(base, times):
    """A number taken by itself so many times, 1 of 0 times."""
    result = 1
    for turn in range(times):
        result = result * base
    return result


def count_lots(some, many):
    """How many lots of some things there are of many; neither is below 0."""
    result = 1
    for step in range(some):
        result = result * (many - step) // (step + 1)
    return result


def list_words(many, signs):
    """The words of so many signs, each below a number of signs, rising."""
    words = [()]
    for turn in range(many):
        words = [word + (sign,) for word in words for sign in range(signs)]
    return words


def count_unlike(one, other):
    """At how many places two words are unlike."""
    return len([sign for sign, second in zip(one, other) if sign != second])


def words_table(many, signs):
    """The table of words of so many signs, near by how many of these are unlike."""
    require_number(many, 1, MOST_PLACES)
    require_number(signs, 1, MOST_PLACES)
    if raised(signs, many) > MOST_PLACES:
        raise NoNumber("there are more than 8 such words")
    words = list_words(many, signs)
    return tuple([tuple([count_unlike(one, other) for other in words]) for one in words])


def pair_kind(one, other):
    """The kind by which two pairs are near."""
    if one == other:
        return 0
    return 1 if one[0] in other or one[1] in other else 2


def pairs_table(many):
    """The table of pairs of so many things, near by 1 with a thing in common, else by 2."""
    require_number(many, 2, MOST_THINGS)
    pairs = [(a, b) for a in range(many) for b in range(a + 1, many)]
    return tuple([tuple([pair_kind(one, other) for other in pairs]) for one in pairs])


def ring_table(many):
    """The table of a ring, near by how many steps the shorter way round has."""
    require_number(many, 1, MOST_PLACES)
    return tuple([tuple([min((a - b) % many, (b - a) % many) for b in range(many)]) for a in range(many)])


def alike_table(many):
    """The table of places all alike: any two unlike ones are near by 1."""
    return blocks_table(1, many)


def block_kind(size, a, b):
    """The kind by which two places of blocks of that size are near."""
    if a == b:
        return 0
    return 1 if size == 1 or a // size == b // size else 2


def blocks_table(many, size):
    """The table of so many blocks of that size, near by 1 in a block, else by 2, or by 1 where no two share a block."""
    require_number(many, 1, MOST_PLACES)
    require_number(size, 1, MOST_PLACES)
    if many * size > MOST_PLACES:
        raise NoNumber("there are more than 8 places together")
    places = list(range(many * size))
    return tuple([tuple([block_kind(size, a, b) for b in places]) for a in places])


def words_number(many, signs, one, other, third):
    """How many words are unlike two words at as many places as told, where these are unlike at third places.

    Such a word is built up of: the places where the two are alike and it is unlike both, the
    places where it keeps the first one's sign, those where it keeps the second one's, and the rest
    of the places where the two are unlike. How many it has of the first tells how many of the others.
    """
    require_number(many, 1, MOST_SIGNS_BY_RULE)
    require_number(signs, 1, MOST_NUMBER_BY_RULE)
    require_kind_to(one, many)
    require_kind_to(other, many)
    require_kind_to(third, many)
    if signs == 1 and third > 0:
        return 0
    total = 0
    for outside in range(many - third + 1):
        first = third + outside - one
        second = third + outside - other
        if first >= 0 and second >= 0 and first + second <= third:
            ways = count_lots(outside, many - third) * raised(signs - 1, outside)
            ways = ways * count_lots(first, third) * count_lots(second, third - first)
            total += ways * raised(signs - 2, third - first - second)
    return total


def words_weight(many, signs, kind, number):
    """The weight of words at the kind, of the weights of that number."""
    require_number(many, 1, MOST_SIGNS_BY_RULE)
    require_number(signs, 2, MOST_NUMBER_BY_RULE)
    require_kind_to(kind, many)
    require_kind_to(number, many)
    return sum([
        raised(-1, some) * raised(signs - 1, kind - some)
        * count_lots(some, number) * count_lots(kind - some, many - number)
        for some in range(kind + 1)
    ])
