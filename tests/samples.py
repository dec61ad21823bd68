"""Tables, wrong things and plain counting that the tests have in common."""

import itertools


def made(many, kind_of):
    return tuple(tuple(kind_of(a, b) for b in range(many)) for a in range(many))


def ring(many):
    return made(many, lambda a, b: min((a - b) % many, (b - a) % many))


def alike(many):
    return made(many, lambda a, b: int(a != b))


def blocks(many, size):
    def kind_of(a, b):
        if a == b:
            return 0
        if size == 1:
            return 1
        return 1 if a // size == b // size else 2
    return made(many * size, kind_of)


def words(many, signs):
    places = list(itertools.product(range(signs), repeat=many))
    return made(len(places), lambda a, b: sum(x != y for x, y in zip(places[a], places[b])))


def pairs(many):
    places = list(itertools.combinations(range(many), 2))

    def kind_of(a, b):
        if a == b:
            return 0
        return 1 if set(places[a]) & set(places[b]) else 2
    return made(len(places), kind_of)


def unlike_bits(many):
    """As many kinds as places: the kind is where the places' bits are unlike."""
    return made(many, lambda a, b: a ^ b)


def grid(rows, columns):
    """Near by 1 in a row, by 2 in a column, else by 3."""
    def kind_of(a, b):
        same_row = a // columns == b // columns
        same_column = a % columns == b % columns
        if same_row:
            return 0 if same_column else 1
        return 2 if same_column else 3
    return made(rows * columns, kind_of)


def beside(one, other):
    """Tuples of a place of the one and a place of the other, near by the kinds of both together."""
    many = len(other)
    kinds = len(kinds_of(other))
    return made(len(one) * many, lambda a, b: one[a // many][b // many] * kinds + other[a % many][b % many])


def within(one, other):
    """The other table in the place of each place of the one."""
    many = len(other)
    kinds = len(kinds_of(other))

    def kind_of(a, b):
        if a // many == b // many:
            return other[a % many][b % many]
        return one[a // many][b // many] + kinds - 1
    return made(len(one) * many, kind_of)


def renamed(table, names):
    """The table with names[kind] in the place of each kind."""
    return tuple(tuple(names[kind] for kind in row) for row in table)


def reordered(table, order):
    """The table with the place order[a] in the stead of each place a."""
    return made(len(order), lambda a, b: table[order[a]][order[b]])


def written(rows):
    """The text of rows: their figures, `/` between each two."""
    return "/".join("".join(str(part) for part in row) for row in rows)


def greater_one(many):
    """As many kinds as places, near by the greater place; not steady from three places on."""
    return made(many, lambda a, b: 0 if a == b else max(a, b))


def kinds_of(table):
    return sorted({kind for row in table for kind in row})


ONE = ((0,),)
TWO = ((0, 1), (1, 0))
PATH = ((0, 1, 2), (1, 0, 1), (2, 1, 0))

CUBE = words(3, 2)

STEADY = (
    [ring(many) for many in range(1, 9)]
    + [alike(many) for many in range(1, 9)]
    + [blocks(2, 2), blocks(2, 3), blocks(3, 2), blocks(2, 4), blocks(4, 2), blocks(1, 5), blocks(5, 1)]
    + [words(2, 2), CUBE, words(1, 8), pairs(4), unlike_bits(2), unlike_bits(4), unlike_bits(8)]
    + [grid(2, 3), grid(2, 4), grid(3, 2)]
    + [beside(ring(4), TWO), within(TWO, ring(4)), within(ring(4), TWO)]
    + [renamed(CUBE, (0, 3, 1, 2)), renamed(blocks(2, 3), (0, 2, 1)), renamed(within(TWO, ring(4)), (0, 3, 1, 2))]
)

NOT_WHOLE = [ring(5), ring(7), ring(8)]
WHOLE = [table for table in STEADY if table not in NOT_WHOLE]

# Every place has as many others by each kind, but two near ones have one in common or none.
PRISM = made(6, lambda a, b: 0 if a == b else 1 if a // 3 == b // 3 or a % 3 == b % 3 else 2)


def otherwise(table, a, b, kind):
    """The table with the one pair of places near by another kind."""
    rows = [list(row) for row in table]
    rows[a][b] = rows[b][a] = kind
    return tuple(tuple(row) for row in rows)


UNSTEADY = [
    PATH,
    PRISM,
    otherwise(CUBE, 0, 7, 2),
    otherwise(CUBE, 3, 5, 1),
    otherwise(ring(5), 1, 4, 1),
    otherwise(pairs(4), 2, 4, 2),
    otherwise(unlike_bits(8), 6, 7, 2),
    otherwise(alike(8), 6, 7, 2),
    otherwise(alike(4), 0, 1, 2),
    otherwise(grid(2, 3), 0, 1, 3),
    greater_one(4),
    greater_one(8),
]


def deep(levels):
    thing = 0
    for level in range(levels):
        thing = [[thing], (thing,), {0: thing}][level % 3]
    return thing


# No table, and nothing else that a table is asked for either.
NO_TABLES = [
    None, True, False, 0, 1, -1, 10 ** 30 - 1, "", "0", "011/101/110", "x" * 100,
    [], (), {}, [0], (0,), {0: 0}, {"": ()}, [[0]], ([0],), [(0,)], {0: (0,)}, (((0,),),),
    ("0",), ((None,),), ((False,),), ((True,),), (("0",),), ((1,),), ((-1,),), ((10 ** 29,),),
    ((),), ((), ()), ((0, 1),), ((0,), (0,)), (0, 0), (None, None), ({}, {}), deep(12), (deep(11),),
]


def no_whole_below(limit):
    """What is no whole number from 0 to one less than the limit."""
    return [
        -1, limit, limit + 1, -limit, -10 ** 29, 10 ** 29, True, False, None, "", "0", "1",
        [], [0], (), (0,), {}, {0: 0}, deep(12),
    ]


def no_wholes(many):
    """What is no tuple of so many whole numbers."""
    zeros = [0] * many
    things = [
        None, True, False, 0, 1, -1, 10 ** 29, "", "0" * many, "x" * 100, {}, dict(enumerate(zeros)), deep(12),
        zeros, tuple(zeros + [0]), tuple(zeros[1:]), [zeros], (tuple(zeros),) * (many + 1),
    ]
    for wrong in (True, False, None, "", "0", [], [0], (), (0,), {}, deep(11)):
        things.append(tuple([wrong] + zeros[1:]))
        things.append(tuple(zeros[1:] + [wrong]))
        things.append(tuple([1] + zeros[2:] + [wrong]))
    return [thing for thing in things if not plain_wholes(thing, many)]


def no_rising(least, greatest):
    """What is no rising tuple of whole numbers from the least to the greatest."""
    things = [
        None, True, False, 0, 1, -1, least, greatest, 10 ** 29, "", "0", "12", "x" * 100, {}, {least: least}, deep(12),
        [], [least], [least, greatest], [[]], [()], [(least,)],
        (least, least), (least, least, greatest), (least, greatest, greatest), (greatest, greatest), (greatest, least),
        (least - 1,), (greatest + 1,), (least - 1, least), (least, greatest + 1), (10 ** 29,), (-10 ** 29,),
        (least, 10 ** 29), (-10 ** 29, greatest),
    ]
    if least < greatest:
        things += [(greatest, greatest - 1), (least + 1, least), (least, greatest, least)]
    for wrong in (True, False, None, "", "0", "1", [], [least], (), (least,), {}, {least: least}, deep(11)):
        things += [(wrong,), (wrong, greatest), (least, wrong), (wrong, wrong)]
    return things


def subsets(things):
    """All rising tuples of some of these, rising."""
    return sorted(
        chosen for many in range(len(things) + 1) for chosen in itertools.combinations(sorted(things), many)
    )


def plain_wholes(thing, many):
    return type(thing) is tuple and len(thing) == many and all(type(part) is int for part in thing)


def all_tables(many):
    """All tables of so many places."""
    two = list(itertools.combinations(range(many), 2))
    for kinds in itertools.product(range(1, max(many, 2)), repeat=len(two)):
        if set(kinds) != set(range(1, max(kinds, default=0) + 1)):
            continue
        named = {pair: kind for pair, kind in zip(two, kinds)}
        yield made(many, lambda a, b: 0 if a == b else named[min(a, b), max(a, b)])


def plain_shares(table, one, other):
    kinds = kinds_of(table)
    return tuple(
        tuple(
            sum(1 for c in range(len(table)) if table[one][c] == i and table[other][c] == j)
            for j in kinds
        )
        for i in kinds
    )


def plain_breaks(table):
    """All breaks, rising, straight from the words of point 13."""
    places = range(len(table))
    shares = {(a, b): plain_shares(table, a, b) for a in places for b in places}
    return [
        (a, b, c, e)
        for a, b, c, e in itertools.product(places, repeat=4)
        if table[a][b] == table[c][e] and shares[a, b] != shares[c, e]
    ]


def plain_number(table, i, j, k):
    places = range(len(table))
    a, b = [(a, b) for a in places for b in places if table[a][b] == k][-1]
    return sum(1 for c in places if table[a][c] == i and table[b][c] == j)


def plain_closed(table):
    kinds = kinds_of(table)
    numbers = {(i, j, k): plain_number(table, i, j, k) for i in kinds for j in kinds for k in kinds}
    return [
        chosen
        for chosen in subsets(kinds)
        if 0 in chosen and all(k in chosen for i, j, k in numbers if i in chosen and j in chosen and numbers[i, j, k])
    ]


def plain_square(table, mix):
    return tuple(tuple(mix[kind] for kind in row) for row in table)


def rows_by_columns(one, other):
    places = range(len(one))
    return tuple(
        tuple(sum(one[a][c] * other[c][b] for c in places) for b in places)
        for a in places
    )


def plain_are_weights(table, weights):
    kinds = kinds_of(table)
    return weights[0] == 1 and all(
        weights[i] * weights[j] == sum(plain_number(table, i, j, k) * weights[k] for k in kinds)
        for i in kinds for j in kinds
    )


def some_mixes(table):
    """Mixes of small and of great numbers, above and below 0."""
    many = len(kinds_of(table))
    return [
        tuple(int(kind == at) for kind in range(many)) for at in range(many)
    ] + [
        (0,) * many,
        (1,) * many,
        tuple(range(-2, many - 2)),
        tuple((-1) ** kind * (kind + 1) for kind in range(many)),
        tuple(7 - 3 * kind for kind in range(many)),
        tuple((-1) ** kind * (10 ** 29 + kind) for kind in range(many)),
    ]
