"""Points 81 and 82, and 2 to 4 as far as tables put together reach."""

import itertools
import unittest

from nearkinds.errors import NoClosed, NoTable, NotSteady, TooMany
from nearkinds.joins import part_of, put_beside, put_within, rest_of
from nearkinds.tables import is_table
from nearkinds.weights import all_weights
from refusing import RefusalCase
from samples import (
    CUBE, NO_TABLES, ONE, PATH, PRISM, STEADY, TWO, UNSTEADY, alike, all_tables, beside, blocks, deep, greater_one,
    grid, kinds_of, no_rising, pairs, plain_breaks, plain_closed, renamed, reordered, ring, subsets, unlike_bits,
    within,
)

ANYTHING = [None, True, 0, "", "0", (), (0,), (0, 1), (1,), [], [0], {}, {0: 0}, ((0,),), deep(12)]
FOUR_PATH = ((0, 1, 2, 3), (1, 0, 1, 2), (2, 1, 0, 1), (3, 2, 1, 0))
SMALL = [ONE, TWO, PATH, alike(3), ring(4), unlike_bits(4), greater_one(4), FOUR_PATH, ring(5), ring(6), PRISM, ring(7)]
FEW_PAIRS = [
    (one, other) for one, other in itertools.product(SMALL + STEADY + UNSTEADY, repeat=2) if len(one) * len(other) <= 8
]
STEADY_PAIRS = [(one, other) for one, other in itertools.product(STEADY, repeat=2) if len(one) * len(other) <= 8]

# Places and kinds in other orders, so that lots lie scattered and their kinds do not follow one another.
MIXED = [
    renamed(beside(ring(4), TWO), (0, 1, 5, 4, 3, 2)),
    renamed(beside(ring(4), TWO), (0, 5, 3, 1, 4, 2)),
    renamed(unlike_bits(8), (0, 7, 3, 5, 1, 6, 2, 4)),
    renamed(grid(2, 3), (0, 3, 1, 2)),
    renamed(grid(2, 4), (0, 2, 3, 1)),
    renamed(within(ring(4), TWO), (0, 2, 3, 1)),
    renamed(within(TWO, unlike_bits(4)), (0, 4, 1, 3, 2)),
    reordered(CUBE, (6, 0, 3, 5, 7, 1, 2, 4)),
    reordered(ring(6), (4, 5, 0, 3, 1, 2)),
    reordered(ring(8), (3, 1, 7, 0, 6, 2, 5, 4)),
    reordered(beside(TWO, ring(4)), (5, 2, 7, 0, 1, 4, 3, 6)),
    reordered(renamed(within(ring(4), TWO), (0, 3, 1, 2)), (2, 7, 5, 0, 3, 6, 4, 1)),
    reordered(renamed(unlike_bits(8), (0, 4, 6, 2, 5, 1, 7, 3)), (1, 4, 0, 2, 7, 5, 3, 6)),
]


def plain_part(table, kinds):
    places = [place for place in range(len(table)) if table[0][place] in kinds]
    return tuple(tuple(kinds.index(table[a][b]) for b in places) for a in places)


def plain_rest(table, kinds):
    """Straight from the words of point 82: pairs of lots with a kind in common are led to one another step by step."""
    places = range(len(table))
    lots = sorted({tuple(b for b in places if table[a][b] in kinds) for a in places}, key=min)
    between = {
        (x, y): {table[a][b] for a in lots[x] for b in lots[y]}
        for x in range(len(lots)) for y in range(len(lots)) if x != y
    }
    groups = [set(found) for found in between.values()]
    while True:
        joined = [set().union(*[other for other in groups if other & group]) for group in groups]
        if joined == groups:
            break
        groups = joined
    leasts = sorted({min(group) for group in groups})
    rows = []
    for x in range(len(lots)):
        row = [
            0 if x == y else 1 + leasts.index(min(next(g for g in groups if g & between[x, y])))
            for y in range(len(lots))
        ]
        rows.append(tuple(row))
    return tuple(rows)


class PutTogetherTest(RefusalCase):
    def test_beside_by_hand(self):
        self.told(((0, 1, 2, 3), (1, 0, 3, 2), (2, 3, 0, 1), (3, 2, 1, 0)), put_beside, TWO, TWO)
        self.told(
            (
                (0, 1, 2, 3, 4, 5),
                (1, 0, 1, 4, 3, 4),
                (2, 1, 0, 5, 4, 3),
                (3, 4, 5, 0, 1, 2),
                (4, 3, 4, 1, 0, 1),
                (5, 4, 3, 2, 1, 0),
            ),
            put_beside, TWO, PATH,
        )
        self.told(
            (
                (0, 1, 2, 3, 4, 5),
                (1, 0, 3, 2, 5, 4),
                (2, 3, 0, 1, 2, 3),
                (3, 2, 1, 0, 3, 2),
                (4, 5, 2, 3, 0, 1),
                (5, 4, 3, 2, 1, 0),
            ),
            put_beside, PATH, TWO,
        )

    def test_within_by_hand(self):
        self.told(((0, 1, 2, 2), (1, 0, 2, 2), (2, 2, 0, 1), (2, 2, 1, 0)), put_within, TWO, TWO)
        self.told(
            (
                (0, 1, 2, 3, 3, 3),
                (1, 0, 1, 3, 3, 3),
                (2, 1, 0, 3, 3, 3),
                (3, 3, 3, 0, 1, 2),
                (3, 3, 3, 1, 0, 1),
                (3, 3, 3, 2, 1, 0),
            ),
            put_within, TWO, PATH,
        )
        self.told(
            (
                (0, 1, 2, 2, 3, 3),
                (1, 0, 2, 2, 3, 3),
                (2, 2, 0, 1, 2, 2),
                (2, 2, 1, 0, 2, 2),
                (3, 3, 2, 2, 0, 1),
                (3, 3, 2, 2, 1, 0),
            ),
            put_within, PATH, TWO,
        )

    def test_with_known_tables(self):
        self.told(blocks(2, 3), put_within, TWO, alike(3))
        self.told(blocks(4, 2), put_within, alike(4), TWO)
        self.told(unlike_bits(8), put_beside, unlike_bits(4), TWO)
        self.told(unlike_bits(8), put_beside, TWO, unlike_bits(4))

    def test_with_the_table_of_one_place(self):
        for table in SMALL + STEADY + UNSTEADY:
            for call in (put_beside, put_within):
                self.told(table, call, ONE, table)
                self.told(table, call, table, ONE)

    def test_place_by_place(self):
        for one, other in FEW_PAIRS:
            self.told(beside(one, other), put_beside, one, other)
            self.told(within(one, other), put_within, one, other)

    def test_all_small_tables(self):
        for one, other in itertools.product([TWO] + list(all_tables(3)), repeat=2):
            if len(one) * len(other) <= 8:
                self.told(beside(one, other), put_beside, one, other)
                self.told(within(one, other), put_within, one, other)
        for table in list(all_tables(4))[::7]:
            for one, other in ((TWO, table), (table, TWO)):
                self.told(beside(one, other), put_beside, one, other)
                self.told(within(one, other), put_within, one, other)

    def test_tables_are_told(self):
        for one, other in FEW_PAIRS:
            self.assertIs(is_table(put_beside(one, other)), True)
            self.assertIs(is_table(put_within(one, other)), True)

    def test_steady_ones_give_steady_ones(self):
        self.assertGreater(len(STEADY_PAIRS), 50)
        for one, other in STEADY_PAIRS:
            self.assertEqual(plain_breaks(put_beside(one, other)), [])
            self.assertEqual(plain_breaks(put_within(one, other)), [])

    def test_weights_side_by_side_are_products(self):
        for one, other in STEADY_PAIRS:
            products = {
                tuple(first * second for first in left for second in right)
                for left in all_weights(one) for right in all_weights(other)
            }
            self.assertEqual(all_weights(put_beside(one, other)), sorted(products, reverse=True))

    def test_eight_places_and_more(self):
        for call in (put_beside, put_within):
            for one, other in ((ring(8), ONE), (ONE, ring(8)), (ring(4), TWO), (TWO, ring(4)), (TWO, greater_one(4))):
                self.assertEqual(len(call(one, other)), 8)
            tables = [TWO, PATH, ring(4), greater_one(5), PRISM, ring(7), ring(8)]
            for one, other in itertools.product(tables, repeat=2):
                if len(one) * len(other) > 8:
                    self.refused(TooMany, call, one, other)
            self.refused(TooMany, call, alike(3), alike(3))
            self.refused(TooMany, call, TWO, alike(5))
            self.refused(TooMany, call, alike(5), TWO)

    def test_no_table_of_either_is_ahead(self):
        for thing in NO_TABLES + [list(TWO), ([0, 1], [1, 0]), alike(9), greater_one(9), ((0, 2), (2, 0))]:
            for call in (put_beside, put_within):
                for right in (ONE, TWO, PATH, ring(8)):
                    self.refused(NoTable, call, thing, right)
                    self.refused(NoTable, call, right, thing)
                self.refused(NoTable, call, thing, thing)


class PartTest(RefusalCase):
    def test_by_hand(self):
        self.told(ONE, part_of, ONE, (0,))
        self.told(TWO, part_of, TWO, (0, 1))
        self.told(ONE, part_of, ring(5), (0,))
        self.told(alike(3), part_of, ring(6), (0, 2))
        self.told(TWO, part_of, ring(6), (0, 3))
        self.told(ring(6), part_of, ring(6), (0, 1, 2, 3))
        self.told(ring(4), part_of, ring(8), (0, 2, 4))
        self.told(alike(4), part_of, CUBE, (0, 2))
        self.told(TWO, part_of, pairs(4), (0, 2))
        self.told(unlike_bits(4), part_of, unlike_bits(8), (0, 3, 5, 6))
        self.told(
            ((0, 2, 1, 2), (2, 0, 2, 1), (1, 2, 0, 2), (2, 1, 2, 0)),
            part_of, renamed(within(TWO, ring(4)), (0, 3, 1, 2)), (0, 1, 3),
        )

    def test_all_closed_kinds(self):
        for table in STEADY + MIXED:
            closed_kinds = plain_closed(table)
            self.assertIn((0,), closed_kinds)
            self.assertIn(tuple(kinds_of(table)), closed_kinds)
            for kinds in closed_kinds:
                self.told(plain_part(table, kinds), part_of, table, kinds)

    def test_none_and_all(self):
        for table in STEADY + MIXED:
            self.told(ONE, part_of, table, (0,))
            self.told(table, part_of, table, tuple(kinds_of(table)))

    def test_parts_are_steady(self):
        for table in STEADY + MIXED:
            for kinds in plain_closed(table):
                part = part_of(table, kinds)
                self.assertIs(is_table(part), True)
                self.assertEqual(plain_breaks(part), [])
                self.assertEqual(kinds_of(part), list(range(len(kinds))))

    def test_of_tables_put_together(self):
        for one, other in STEADY_PAIRS:
            kinds = tuple(kinds_of(other))
            self.told(other, part_of, beside(one, other), kinds)
            self.told(other, part_of, within(one, other), kinds)
            self.told(one, part_of, beside(one, other), tuple(kind * len(kinds) for kind in kinds_of(one)))


class RestTest(RefusalCase):
    def test_by_hand(self):
        self.told(ONE, rest_of, ONE, (0,))
        self.told(ONE, rest_of, TWO, (0, 1))
        self.told(TWO, rest_of, TWO, (0,))
        self.told(TWO, rest_of, ring(6), (0, 2))
        self.told(alike(3), rest_of, ring(6), (0, 3))
        self.told(ring(6), rest_of, ring(6), (0,))
        self.told(ONE, rest_of, ring(6), (0, 1, 2, 3))
        self.told(ring(4), rest_of, ring(8), (0, 4))
        self.told(TWO, rest_of, ring(8), (0, 2, 4))
        self.told(alike(4), rest_of, CUBE, (0, 3))
        self.told(alike(3), rest_of, pairs(4), (0, 2))
        self.told(unlike_bits(4), rest_of, unlike_bits(8), (0, 1))
        self.told(unlike_bits(4), rest_of, unlike_bits(8), (0, 3))
        self.told(unlike_bits(4), rest_of, unlike_bits(8), (0, 4))
        self.told(
            ((0, 2, 1, 2), (2, 0, 2, 1), (1, 2, 0, 2), (2, 1, 2, 0)),
            rest_of, renamed(beside(ring(4), TWO), (0, 1, 5, 4, 3, 2)), (0, 1),
        )

    def test_all_closed_kinds(self):
        for table in STEADY + MIXED:
            for kinds in plain_closed(table):
                self.told(plain_rest(table, kinds), rest_of, table, kinds)

    def test_none_and_all(self):
        for table in STEADY + MIXED:
            self.told(table, rest_of, table, (0,))
            self.told(ONE, rest_of, table, tuple(kinds_of(table)))

    def test_rests_are_steady(self):
        for table in STEADY + MIXED:
            for kinds in plain_closed(table):
                rest = rest_of(table, kinds)
                self.assertIs(is_table(rest), True)
                self.assertEqual(plain_breaks(rest), [])
                self.assertEqual(len(rest) * len(part_of(table, kinds)), len(table))

    def test_of_tables_put_together(self):
        for one, other in STEADY_PAIRS:
            kinds = tuple(kinds_of(other))
            self.told(one, rest_of, beside(one, other), kinds)
            self.told(one, rest_of, within(one, other), kinds)
            self.told(other, rest_of, beside(one, other), tuple(kind * len(kinds) for kind in kinds_of(one)))


class RefusedPartsTest(RefusalCase):
    def test_no_closed(self):
        for table in STEADY + MIXED:
            right = plain_closed(table)
            for kinds in subsets(kinds_of(table)):
                if kinds not in right:
                    self.refused(NoClosed, part_of, table, kinds)
                    self.refused(NoClosed, rest_of, table, kinds)
        for table in (ONE, TWO, CUBE, ring(5), unlike_bits(8)):
            for thing in no_rising(0, len(kinds_of(table)) - 1) + [()]:
                self.refused(NoClosed, part_of, table, thing)
                self.refused(NoClosed, rest_of, table, thing)
        for thing in ((1,), (2, 0), (0, 0), (0, 4), (0, 3, 2), [0, 2], [0], (False, 2), (0, 2, None), "02", {0: 2}):
            self.refused(NoClosed, part_of, CUBE, thing)
            self.refused(NoClosed, rest_of, CUBE, thing)

    def test_not_steady_then_no_table_are_ahead(self):
        for call in (part_of, rest_of):
            for thing in ANYTHING:
                for table in UNSTEADY:
                    self.refused(NotSteady, call, table, thing)
                for table in NO_TABLES + [list(CUBE), alike(9)]:
                    self.refused(NoTable, call, table, thing)


if __name__ == "__main__":
    unittest.main()
