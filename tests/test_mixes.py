"""Points 21, 22 and 23, and 2 to 4 as far as mixes reach."""

import unittest

from nearkinds.errors import NoKind, NoMix, NoNumber, NoTable, NotSteady
from nearkinds.mixes import added, is_mix, number, power, product, sizes, square
from refusing import RefusalCase
from samples import (
    CUBE, NO_TABLES, ONE, PATH, PRISM, STEADY, TWO, UNSTEADY, alike, blocks, kinds_of, no_whole_below, no_wholes,
    pairs, plain_number, plain_square, ring, rows_by_columns, some_mixes, unlike_bits,
)

# One of these is handed in where nothing else but the table is to be looked at.
ANYTHING = [None, True, 0, -1, 99, (), (1,), [1, 0], "1", {}]


class NumberTest(RefusalCase):
    def test_numbers_counted_by_hand(self):
        self.told(1, number, ONE, 0, 0, 0)
        self.told(1, number, TWO, 1, 1, 0)
        self.told(0, number, TWO, 1, 1, 1)
        self.told(3, number, CUBE, 1, 1, 0)
        self.told(2, number, CUBE, 1, 1, 2)
        self.told(2, number, CUBE, 1, 2, 1)
        self.told(3, number, CUBE, 1, 2, 3)
        self.told(0, number, CUBE, 1, 1, 3)
        self.told(3, number, CUBE, 2, 1, 3)
        self.told(2, number, alike(4), 1, 1, 1)
        self.told(4, number, pairs(4), 1, 1, 2)
        self.told(1, number, pairs(4), 1, 2, 1)

    def test_against_counting(self):
        for table in STEADY:
            kinds = kinds_of(table)
            for i in kinds:
                for j in kinds:
                    for k in kinds:
                        self.assertEqual(number(table, i, j, k), plain_number(table, i, j, k))

    def test_no_kind_of_each_of_the_three(self):
        for table in (ONE, TWO, CUBE, unlike_bits(8)):
            for wrong in no_whole_below(len(kinds_of(table))):
                self.refused(NoKind, number, table, wrong, 0, 0)
                self.refused(NoKind, number, table, 0, wrong, 0)
                self.refused(NoKind, number, table, 0, 0, wrong)
                self.refused(NoKind, number, table, wrong, wrong, wrong)

    def test_not_steady_and_no_table_are_ahead(self):
        for thing in ANYTHING:
            for table in UNSTEADY:
                self.refused(NotSteady, number, table, thing, 0, 0)
                self.refused(NotSteady, number, table, 0, thing, 0)
                self.refused(NotSteady, number, table, 0, 0, thing)
            for table in NO_TABLES:
                self.refused(NoTable, number, table, thing, thing, thing)


class SizesTest(RefusalCase):
    def test_sizes_counted_by_hand(self):
        self.told([1], sizes, ONE)
        self.told([1, 3, 3, 1], sizes, CUBE)
        self.told([1, 2, 2], sizes, ring(5))
        self.told([1, 2, 2, 2, 1], sizes, ring(8))
        self.told([1, 7], sizes, alike(8))
        self.told([1, 2, 3], sizes, blocks(2, 3))
        self.told([1] * 8, sizes, unlike_bits(8))

    def test_of_any_place(self):
        for table in STEADY:
            for row in table:
                self.told([row.count(kind) for kind in kinds_of(table)], sizes, table)

    def test_a_told_list_is_the_askers_own(self):
        told = sizes(CUBE)
        again = sizes(CUBE)
        told[0] = 99
        told.append(5)
        self.assertEqual(again, [1, 3, 3, 1])
        self.assertEqual(sizes(CUBE), [1, 3, 3, 1])
        self.assertEqual(number(CUBE, 1, 1, 0), 3)

    def test_refused(self):
        for table in UNSTEADY:
            self.refused(NotSteady, sizes, table)
        for table in NO_TABLES:
            self.refused(NoTable, sizes, table)


class IsMixTest(RefusalCase):
    def test_mixes(self):
        for table in STEADY + UNSTEADY:
            for mix in some_mixes(table):
                self.told(True, is_mix, table, mix)

    def test_other_things(self):
        for table in (ONE, TWO, PATH, CUBE, PRISM, unlike_bits(8)):
            for thing in no_wholes(len(kinds_of(table))):
                self.told(False, is_mix, table, thing)
        self.told(False, is_mix, TWO, (0, True))
        self.told(False, is_mix, TWO, [0, 1])
        self.told(False, is_mix, ONE, ())
        self.told(False, is_mix, ONE, (False,))

    def test_as_many_as_kinds_not_as_places(self):
        self.told(False, is_mix, CUBE, (0,) * 8)
        self.told(True, is_mix, CUBE, (0,) * 4)

    def test_no_table_is_ahead(self):
        for table in NO_TABLES:
            for thing in ANYTHING:
                self.refused(NoTable, is_mix, table, thing)


class SquareTest(RefusalCase):
    def test_by_hand(self):
        self.told(((7,),), square, ONE, (7,))
        self.told(((3, -4), (-4, 3)), square, TWO, (3, -4))
        self.told(((5, -1, 0), (-1, 5, -1), (0, -1, 5)), square, PATH, (5, -1, 0))

    def test_the_mix_of_the_kinds_themselves_gives_the_table(self):
        for table in STEADY + UNSTEADY:
            self.told(table, square, table, tuple(kinds_of(table)))

    def test_kind_by_kind(self):
        for table in STEADY + UNSTEADY:
            for mix in some_mixes(table):
                self.told(plain_square(table, mix), square, table, mix)

    def test_refused(self):
        for table in (ONE, TWO, PATH, CUBE, PRISM):
            for thing in no_wholes(len(kinds_of(table))):
                self.refused(NoMix, square, table, thing)
        for table in NO_TABLES:
            for thing in ANYTHING:
                self.refused(NoTable, square, table, thing)


class ProductTest(RefusalCase):
    def test_by_hand(self):
        self.told((-6,), product, ONE, (2,), (-3,))
        self.told((23, 26), product, TWO, (3, 4), (5, 2))
        self.told((3, 2), product, alike(4), (0, 1), (0, 1))
        self.told((3, 0, 2, 0), product, CUBE, (0, 1, 0, 0), (0, 1, 0, 0))
        self.told((0, 2, 0, 3), product, CUBE, (0, 1, 0, 0), (0, 0, 1, 0))

    def test_the_square_of_a_product_is_rows_by_columns(self):
        for table in STEADY:
            mixes = some_mixes(table)
            for one in mixes:
                for other in mixes:
                    found = product(table, one, other)
                    self.assertIs(type(found), tuple)
                    self.assertTrue(is_mix(table, found))
                    expected = rows_by_columns(plain_square(table, one), plain_square(table, other))
                    self.assertEqual(plain_square(table, found), expected)

    def test_great_numbers_and_numbers_below_nought(self):
        great = 10 ** 29
        self.told((great * great - 4, 0), product, TWO, (great, 2), (great, -2))
        self.told((-great * great * 2, -great * great * 2), product, TWO, (great, great), (-great, -great))

    def test_refused(self):
        for call in (product, added):
            for table in (ONE, TWO, CUBE):
                many = len(kinds_of(table))
                mix = (1,) * many
                for thing in no_wholes(many):
                    self.refused(NoMix, call, table, thing, mix)
                    self.refused(NoMix, call, table, mix, thing)
                    self.refused(NoMix, call, table, thing, thing)
            for thing in ANYTHING:
                for table in UNSTEADY:
                    mix = (1,) * len(kinds_of(table))
                    self.refused(NotSteady, call, table, thing, mix)
                    self.refused(NotSteady, call, table, mix, thing)
                    self.refused(NotSteady, call, table, mix, mix)
                for table in NO_TABLES:
                    self.refused(NoTable, call, table, thing, thing)


class AddedTest(RefusalCase):
    def test_by_hand(self):
        self.told((-1,), added, ONE, (2,), (-3,))
        self.told((1, 1, 10 ** 29 + 1, 0), added, CUBE, (1, 2, 10 ** 29, -7), (0, -1, 1, 7))

    def test_the_square_of_a_sum(self):
        for table in STEADY:
            for one in some_mixes(table):
                for other in some_mixes(table):
                    found = added(table, one, other)
                    self.assertIs(type(found), tuple)
                    for row, first, second in zip(
                        plain_square(table, found), plain_square(table, one), plain_square(table, other)
                    ):
                        self.assertEqual(row, tuple(x + y for x, y in zip(first, second)))


class PowerTest(RefusalCase):
    def test_nought_times(self):
        self.told((1,), power, ONE, (0,), 0)
        self.told((1, 0, 0, 0), power, CUBE, (0, 0, 0, 0), 0)
        for table in STEADY:
            unit = tuple(int(kind == 0) for kind in kinds_of(table))
            for mix in some_mixes(table):
                self.told(unit, power, table, mix, 0)

    def test_once(self):
        for table in STEADY:
            for mix in some_mixes(table):
                self.told(mix, power, table, mix, 1)

    def test_by_hand(self):
        self.told((256,), power, ONE, (-2,), 8)
        self.told((1, 0), power, TWO, (0, 1), 8)
        self.told((0, 1), power, TWO, (0, 1), 7)
        self.told((3, 2), power, alike(4), (0, 1), 2)
        self.told((6, 7), power, alike(4), (0, 1), 3)

    def test_times_by_times(self):
        for table in STEADY:
            for mix in some_mixes(table):
                taken = plain_square(table, tuple(int(kind == 0) for kind in kinds_of(table)))
                for times in range(9):
                    found = power(table, mix, times)
                    self.assertIs(type(found), tuple)
                    self.assertEqual(plain_square(table, found), taken)
                    taken = rows_by_columns(taken, plain_square(table, mix))

    def test_no_number(self):
        for times in no_whole_below(9):
            self.refused(NoNumber, power, CUBE, (1, 2, 3, 4), times)
            self.refused(NoNumber, power, ONE, (0,), times)

    def test_no_mix_is_ahead_of_no_number(self):
        for thing in no_wholes(4):
            self.refused(NoMix, power, CUBE, thing, 2)
            self.refused(NoMix, power, CUBE, thing, 9)
            self.refused(NoMix, power, CUBE, thing, None)

    def test_not_steady_and_no_table_are_ahead(self):
        for thing in ANYTHING:
            for table in UNSTEADY:
                mix = (1,) * len(kinds_of(table))
                self.refused(NotSteady, power, table, thing, 2)
                self.refused(NotSteady, power, table, mix, thing)
            for table in NO_TABLES:
                self.refused(NoTable, power, table, thing, thing)


if __name__ == "__main__":
    unittest.main()
