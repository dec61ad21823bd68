"""Points 71, 72 and 73, and 2 to 4 as far as kinds made one reach."""

import itertools
import unittest

from nearkinds.errors import NoClosed, NoParting, NoTable, NotSteady, TooMany
from nearkinds.ones import closed, is_parting, made_one, steady_partings, together
from nearkinds.tables import is_steady, is_table
from refusing import RefusalCase
from samples import (
    CUBE, NO_TABLES, ONE, PATH, PRISM, STEADY, TWO, UNSTEADY, alike, all_tables, beside, blocks, deep, greater_one,
    grid, kinds_of, no_rising, pairs, plain_breaks, plain_closed, ring, subsets, unlike_bits, within,
)

SIX_KINDS = beside(ring(4), TWO)
ANYTHING = [None, True, 0, 1, "", "0", (), (0,), (0, 1), [], [(1,)], [()], [1], [[1]], {}, {1: 1}, ((1,),), deep(12)]


def plain_partings(kinds):
    """All partings of these kinds, rising, by all ways of giving each kind a name."""
    found = set()
    for names in itertools.product(range(len(kinds)), repeat=len(kinds)):
        parts = [tuple(kind for kind, by in zip(kinds, names) if by == name) for name in set(names)]
        found.add(tuple(sorted(parts)))
    return sorted([list(parting) for parting in found])


def plain_made(table, parting):
    def name_of(kind):
        return 0 if kind == 0 else [kind in part for part in parting].index(True) + 1
    return tuple(tuple(name_of(kind) for kind in row) for row in table)


class PartingTest(RefusalCase):
    def test_by_hand(self):
        self.told(True, is_parting, ONE, [])
        self.told(True, is_parting, TWO, [(1,)])
        self.told(True, is_parting, PATH, [(1,), (2,)])
        self.told(True, is_parting, PATH, [(1, 2)])
        self.told(True, is_parting, CUBE, [(1, 3), (2,)])
        self.told(True, is_parting, CUBE, [(1, 2, 3)])
        self.told(True, is_parting, unlike_bits(8), [(1, 7), (2, 3, 5), (4, 6)])

    def test_all_partings(self):
        for table in (ONE, TWO, PATH, CUBE, ring(8), greater_one(6)):
            for parting in plain_partings(kinds_of(table)[1:]):
                self.told(True, is_parting, table, parting)

    def wrong_partings(self):
        for thing in [(), [()], [[]], [(0,)], [(1,)], {}, "", None, 0, False, deep(12), [deep(11)]]:
            yield ONE, thing
        for thing in [
            [], (), [()], [(), (1,)], [(1,), ()], [(0,)], [(0, 1)], [(0,), (1,)], [(1,), (1,)], [(1, 1)], [(2,)],
            [(1, 2)], [(1,), (2,)], [(-1,)], [(-1, 1)], [(10 ** 29,)], [(1, 10 ** 29)], [(True,)], [(1,), (True,)],
            [("1",)], [(None,)], [((1,),)], [([1],)], [[1]], [1], [None], [True], ["1"], [{1: 1}], [[(1,)]],
            ((1,),), (1,), 1, True, None, "1", {1: 1}, {(1,): (1,)}, deep(12), [deep(11)], [(deep(10),)], [(1,), None],
        ]:
            yield TWO, thing
        for thing in [
            [(2,), (1,)], [(2, 1)], [(1,)], [(2,)], [(1,), (1, 2)], [(1, 2), (2,)], [(1,), (2,), (2,)], [(1,), (3,)],
            [(1,), (2,), (3,)], [(1,), [2]], [[1], (2,)], [(1,), 2], [1, 2], [[1, 2]], ((1,), (2,)), ((1, 2),), (1, 2),
            [(0,), (1,), (2,)], [(), (1, 2)], [(1,), (2, True)], [(True, 2)], [(1, "2")], [(1,), ("2",)],
            [("1",), ("2",)],
        ]:
            yield PATH, thing
        for thing in [[(1, 3)], [(1,), (3,), (2,)], [(1, 3), (3,)], [(2,), (1, 3)], [(3, 1), (2,)], [(1, 2, 3, 4)]]:
            yield CUBE, thing

    def test_other_things(self):
        for table, thing in self.wrong_partings():
            self.told(False, is_parting, table, thing)
            self.refused(NoParting, made_one, table, thing)

    def test_no_table_is_ahead(self):
        for table in NO_TABLES:
            for thing in ANYTHING:
                self.refused(NoTable, is_parting, table, thing)
                self.refused(NoTable, made_one, table, thing)


class MadeOneTest(RefusalCase):
    def test_by_hand(self):
        self.told(ONE, made_one, ONE, [])
        self.told(TWO, made_one, TWO, [(1,)])
        self.told(PATH, made_one, PATH, [(1,), (2,)])
        self.told(alike(3), made_one, PATH, [(1, 2)])
        self.told(((0, 1, 2, 1), (1, 0, 1, 2), (2, 1, 0, 1), (1, 2, 1, 0)), made_one, unlike_bits(4), [(1, 3), (2,)])
        self.told(((0, 1, 2, 2), (1, 0, 2, 2), (2, 2, 0, 1), (2, 2, 1, 0)), made_one, unlike_bits(4), [(1,), (2, 3)])

    def test_every_parting(self):
        for table in [ONE, TWO, PATH, PRISM, CUBE, grid(2, 3), ring(8), SIX_KINDS, greater_one(5), greater_one(6)]:
            for parting in plain_partings(kinds_of(table)[1:]):
                self.told(plain_made(table, parting), made_one, table, parting)
                self.assertIs(is_table(made_one(table, parting)), True)

    def test_many_kinds(self):
        parting = [(1, 7), (2, 3, 5), (4,), (6,)]
        self.told(plain_made(unlike_bits(8), parting), made_one, unlike_bits(8), parting)
        self.told(plain_made(greater_one(8), parting), made_one, greater_one(8), parting)

    def test_what_is_handed_in_stays(self):
        parting = [(1, 3), (2,)]
        made = made_one(CUBE, parting)
        self.assertEqual(parting, [(1, 3), (2,)])
        parting.clear()
        self.assertEqual(made, plain_made(CUBE, [(1, 3), (2,)]))


class SteadyPartingsTest(RefusalCase):
    def test_by_hand(self):
        self.told([[]], steady_partings, ONE)
        self.told([[(1,)]], steady_partings, alike(8))
        self.told([[(1, 2)]], steady_partings, PATH)
        self.told([[(1, 2)]], steady_partings, PRISM)
        self.told([[(1,), (2,)], [(1, 2)]], steady_partings, ring(4))
        self.told([[(1,), (2,), (3,)], [(1, 2), (3,)], [(1, 2, 3)], [(1, 3), (2,)]], steady_partings, CUBE)
        self.told(
            [[(1,), (2,), (3,)], [(1,), (2, 3)], [(1, 2), (3,)], [(1, 2, 3)], [(1, 3), (2,)]],
            steady_partings, unlike_bits(4),
        )

    def test_all_partings_are_tried(self):
        tables = STEADY + UNSTEADY + list(all_tables(3)) + list(all_tables(4))[::11] + [greater_one(6)]
        for table in tables:
            if len(kinds_of(table)) <= 6:
                partings = plain_partings(kinds_of(table)[1:])
                expected = [parting for parting in partings if not plain_breaks(plain_made(table, parting))]
                self.told(expected, steady_partings, table)

    def test_each_makes_a_steady_table(self):
        for table in (SIX_KINDS, CUBE, ring(8), greater_one(6), within(TWO, ring(4))):
            for parting in steady_partings(table):
                self.assertIs(is_parting(table, parting), True)
                self.assertIs(is_steady(made_one(table, parting)), True)

    def test_told_lists_are_the_askers_own(self):
        told = steady_partings(CUBE)
        again = steady_partings(CUBE)
        lists = [told, again] + told + again
        self.assertEqual(len({id(one) for one in lists}), len(lists))
        told[0].append((4,))
        told[1].clear()
        told.pop()
        self.assertEqual(again, [[(1,), (2,), (3,)], [(1, 2), (3,)], [(1, 2, 3)], [(1, 3), (2,)]])
        self.assertEqual(steady_partings(CUBE), again)
        steady_partings(ONE)[0].append((1,))
        self.assertEqual(steady_partings(ONE), [[]])

    def test_too_many(self):
        self.assertEqual(len(kinds_of(greater_one(7))), 7)
        self.assertEqual(len(kinds_of(SIX_KINDS)), 6)
        for table in (greater_one(7), greater_one(8), unlike_bits(8)):
            self.refused(TooMany, steady_partings, table)

    def test_no_table_is_ahead(self):
        rows = greater_one(7)
        for table in NO_TABLES + [list(rows), tuple(list(row) for row in rows), rows[:6], greater_one(9)]:
            self.refused(NoTable, steady_partings, table)


class ClosedTest(RefusalCase):
    def test_by_hand(self):
        for table, expected in [
            (ONE, [(0,)]),
            (TWO, [(0,), (0, 1)]),
            (alike(8), [(0,), (0, 1)]),
            (ring(5), [(0,), (0, 1, 2)]),
            (ring(6), [(0,), (0, 1, 2, 3), (0, 2), (0, 3)]),
            (CUBE, [(0,), (0, 1, 2, 3), (0, 2), (0, 3)]),
            (blocks(2, 3), [(0,), (0, 1), (0, 1, 2)]),
            (pairs(4), [(0,), (0, 1, 2), (0, 2)]),
            (unlike_bits(4), [(0,), (0, 1), (0, 1, 2, 3), (0, 2), (0, 3)]),
        ]:
            self.told(expected, closed, table)

    def test_all_kinds_are_tried(self):
        for table in STEADY:
            self.told(plain_closed(table), closed, table)
        self.assertEqual(len(closed(unlike_bits(8))), 16)

    def test_a_told_list_is_the_askers_own(self):
        told = closed(CUBE)
        again = closed(CUBE)
        told.clear()
        self.assertEqual(again, [(0,), (0, 1, 2, 3), (0, 2), (0, 3)])
        self.assertEqual(closed(CUBE), again)

    def test_refused(self):
        for table in UNSTEADY:
            self.refused(NotSteady, closed, table)
        for table in NO_TABLES:
            self.refused(NoTable, closed, table)


class TogetherTest(RefusalCase):
    def test_by_hand(self):
        self.told([(0,)], together, ONE, (0,))
        self.told([(0,), (1,)], together, TWO, (0,))
        self.told([(0, 1)], together, TWO, (0, 1))
        self.told([(0, 3), (1, 4), (2, 5)], together, ring(6), (0, 3))
        self.told([(0, 2, 4), (1, 3, 5)], together, ring(6), (0, 2))
        self.told([(0, 3, 5, 6), (1, 2, 4, 7)], together, CUBE, (0, 2))
        self.told([(0, 7), (1, 6), (2, 5), (3, 4)], together, CUBE, (0, 3))
        self.told([(0, 1, 2, 3, 4, 5, 6, 7)], together, CUBE, (0, 1, 2, 3))

    def test_all_closed_kinds(self):
        for table in STEADY:
            places = range(len(table))
            for kinds in plain_closed(table):
                expected = sorted({tuple(b for b in places if table[a][b] in kinds) for a in places})
                self.told(expected, together, table, kinds)
                self.assertEqual(sorted(place for lot in expected for place in lot), list(places))

    def test_a_told_list_is_the_askers_own(self):
        told = together(CUBE, (0, 3))
        again = together(CUBE, (0, 3))
        told.clear()
        self.assertEqual(again, [(0, 7), (1, 6), (2, 5), (3, 4)])
        self.assertEqual(together(CUBE, (0, 3)), again)

    def test_no_closed(self):
        for table in STEADY:
            right = plain_closed(table)
            for kinds in subsets(kinds_of(table)):
                if kinds not in right:
                    self.refused(NoClosed, together, table, kinds)
        for table in (ONE, TWO, CUBE, ring(5), unlike_bits(8)):
            for thing in no_rising(0, len(kinds_of(table)) - 1) + [()]:
                self.refused(NoClosed, together, table, thing)
        for thing in ((1,), (1, 2, 3), (2, 0), (0, 0), (0, 4), (0, 3, 2), [0, 2], [0], (False, 2), (0, 2, None), "02"):
            self.refused(NoClosed, together, CUBE, thing)

    def test_not_steady_and_no_table_are_ahead(self):
        for thing in ANYTHING:
            for table in UNSTEADY:
                self.refused(NotSteady, together, table, thing)
            for table in NO_TABLES:
                self.refused(NoTable, together, table, thing)


if __name__ == "__main__":
    unittest.main()
