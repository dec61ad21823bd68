"""Points 11, 12 and 13, and 2 to 4 as far as tables reach."""

import unittest

from nearkinds.errors import NoKind, NoPlace, NoTable
from nearkinds.tables import first_break, is_break, is_steady, is_table, kinds_many, near_of, shares_of
from refusing import RefusalCase
from samples import (
    CUBE, NO_TABLES, ONE, PATH, PRISM, STEADY, TWO, UNSTEADY, alike, all_tables, kinds_of, made, no_whole_below,
    no_wholes, otherwise, plain_breaks, plain_shares, ring, unlike_bits,
)


def placed(table, a, b, thing):
    """The table with just one place of one row otherwise."""
    rows = [list(row) for row in table]
    rows[a][b] = thing
    return tuple(tuple(row) for row in rows)


class IsTableTest(RefusalCase):
    def test_tables_of_one_to_eight_places(self):
        for table in STEADY + UNSTEADY + [ONE, TWO, PATH]:
            self.told(True, is_table, table)
        self.assertEqual({len(table) for table in STEADY}, set(range(1, 9)))

    def test_nine_places_are_too_many(self):
        for table in (alike(9), ring(9), ring(10)):
            self.told(False, is_table, table)

    def test_anything_is_answered(self):
        for thing in NO_TABLES:
            self.told(False, is_table, thing)

    def test_lists_in_the_place_of_tuples(self):
        for table in (ONE, TWO, CUBE):
            self.told(False, is_table, list(table))
            self.told(False, is_table, [list(row) for row in table])
            for at in range(len(table)):
                rows = list(table)
                rows[at] = list(rows[at])
                self.told(False, is_table, tuple(rows))

    def test_a_kind_on_one_side_alone(self):
        for table in (PATH, CUBE, unlike_bits(4)):
            for a in range(len(table)):
                for b in range(len(table)):
                    for kind in kinds_of(table):
                        self.told(kind == table[a][b], is_table, placed(table, a, b, kind))

    def test_nought_off_the_places_where_a_is_b(self):
        self.told(False, is_table, ((0, 0), (0, 0)))
        self.told(False, is_table, otherwise(CUBE, 2, 5, 0))

    def test_another_kind_than_nought_where_a_is_b(self):
        self.told(False, is_table, ((1,),))
        self.told(False, is_table, ((1, 1), (1, 1)))
        self.told(False, is_table, ((1, 0), (0, 1)))
        for at in range(8):
            self.told(False, is_table, placed(CUBE, at, at, 1))

    def test_a_number_left_out(self):
        self.told(False, is_table, ((0, 2, 2), (2, 0, 2), (2, 2, 0)))
        self.told(False, is_table, made(4, lambda a, b: 0 if a == b else 3 if a + b == 3 else 1))
        self.told(False, is_table, made(4, lambda a, b: 0 if a == b else 3 if a + b == 3 else 2))
        self.told(True, is_table, made(4, lambda a, b: 0 if a == b else 2 if a + b == 3 else 1))
        self.told(False, is_table, otherwise(alike(8), 0, 7, 7))

    def test_numbers_from_nought_to_one_less_than_many(self):
        self.told(False, is_table, ((0, 1, 2), (1, 0, 3), (2, 3, 0)))
        self.told(False, is_table, ((0, 2), (2, 0)))
        self.told(False, is_table, otherwise(unlike_bits(8), 0, 1, 8))
        self.told(False, is_table, otherwise(unlike_bits(8), 0, 1, -1))
        self.told(False, is_table, ((0, -1), (-1, 0)))
        self.told(False, is_table, otherwise(CUBE, 0, 1, 10 ** 29))
        self.told(True, is_table, otherwise(unlike_bits(8), 0, 1, 7))

    def test_a_row_too_short_or_too_long(self):
        for table in (TWO, PATH, CUBE):
            for at in range(len(table)):
                for row in ((), table[at][:-1], table[at][1:], table[at] + (0,), table[at] + (1,)):
                    self.told(False, is_table, table[:at] + (row,) + table[at + 1:])
            self.told(False, is_table, table[:-1])
            self.told(False, is_table, table + (table[-1],))

    def test_truths_are_no_whole_numbers(self):
        self.told(False, is_table, ((False, True), (True, False)))
        self.told(False, is_table, ((0, True), (True, 0)))
        self.told(False, is_table, ((0, True), (1, 0)))
        self.told(False, is_table, ((0, 1), (1, False)))
        self.told(False, is_table, ((False,),))

    def test_other_things_in_a_row(self):
        for thing in (None, "", "1", [], [1], (), (1,), {}, {1: 1}):
            self.told(False, is_table, ((0, thing), (thing, 0)))
            self.told(False, is_table, ((0, 1), (1, thing)))
            self.told(False, is_table, (thing, (1, 0)))
            self.told(False, is_table, ((0, 1), thing))


class RefusedTablesTest(RefusalCase):
    def test_no_table_is_ahead_of_all_else(self):
        wrong = NO_TABLES + [alike(9), list(CUBE), [list(row) for row in CUBE], otherwise(CUBE, 0, 1, 0)]
        for thing in wrong:
            self.refused(NoTable, kinds_many, thing)
            self.refused(NoTable, is_steady, thing)
            self.refused(NoTable, first_break, thing)
            for other in (0, -1, None, True, 99, [], (0, 0, 0, 0)):
                self.refused(NoTable, near_of, thing, other, 0)
                self.refused(NoTable, near_of, thing, 0, other)
                self.refused(NoTable, shares_of, thing, other, 0)
                self.refused(NoTable, shares_of, thing, 0, other)
                self.refused(NoTable, is_break, thing, other)


class NearTest(RefusalCase):
    def test_how_many_kinds(self):
        self.told(1, kinds_many, ONE)
        self.told(2, kinds_many, TWO)
        self.told(3, kinds_many, PATH)
        self.told(4, kinds_many, CUBE)
        self.told(8, kinds_many, unlike_bits(8))
        for table in STEADY + UNSTEADY:
            self.told(len(kinds_of(table)), kinds_many, table)

    def test_a_kind_far_down_is_counted(self):
        self.told(3, kinds_many, otherwise(alike(8), 6, 7, 2))

    def test_places_near_a_place(self):
        self.told([0], near_of, ONE, 0, 0)
        self.told([1], near_of, TWO, 0, 1)
        self.told([1, 2, 4], near_of, CUBE, 0, 1)
        self.told([1, 2, 4], near_of, CUBE, 7, 2)
        self.told([], near_of, PATH, 1, 2)
        self.told([0, 2], near_of, PATH, 1, 1)
        for table in STEADY + UNSTEADY:
            for place in range(len(table)):
                self.told([place], near_of, table, place, 0)
                found = [near_of(table, place, kind) for kind in kinds_of(table)]
                self.assertEqual(sorted(sum(found, [])), list(range(len(table))))
                for kind, others in enumerate(found):
                    self.assertEqual(others, sorted(others))
                    self.assertTrue(all(table[place][other] == kind for other in others))

    def test_places_and_kinds_just_outside(self):
        for table in (ONE, TWO, PATH, CUBE, unlike_bits(8)):
            many = len(kinds_of(table))
            for place in no_whole_below(len(table)):
                self.refused(NoPlace, near_of, table, place, 0)
            for kind in no_whole_below(many):
                self.refused(NoKind, near_of, table, 0, kind)
            self.told([len(table) - 1], near_of, table, len(table) - 1, 0)
            self.told(table[0].count(many - 1), lambda *handed: len(near_of(*handed)), table, 0, many - 1)

    def test_no_place_is_ahead_of_no_kind(self):
        for place in no_whole_below(3):
            for kind in no_whole_below(3):
                self.refused(NoPlace, near_of, PATH, place, kind)

    def test_a_told_list_is_the_askers_own(self):
        told = near_of(CUBE, 0, 1)
        again = near_of(CUBE, 0, 1)
        self.assertIsNot(told, again)
        told.clear()
        told.append(9)
        self.assertEqual(again, [1, 2, 4])
        self.assertEqual(near_of(CUBE, 0, 1), [1, 2, 4])


class SharesTest(RefusalCase):
    def test_small_ones(self):
        self.told(((1,),), shares_of, ONE, 0, 0)
        self.told(((0, 1), (1, 0)), shares_of, TWO, 0, 1)
        self.told(((0, 1, 0), (1, 0, 0), (0, 1, 0)), shares_of, PATH, 0, 1)
        self.told(((0, 1, 0), (1, 0, 1), (0, 0, 0)), shares_of, PATH, 1, 0)

    def test_one_place_taken_twice(self):
        self.told(((1, 0), (0, 1)), shares_of, TWO, 1, 1)
        self.told(((1, 0, 0), (0, 2, 0), (0, 0, 0)), shares_of, PATH, 1, 1)
        self.told(((1, 0, 0, 0), (0, 3, 0, 0), (0, 0, 3, 0), (0, 0, 0, 1)), shares_of, CUBE, 5, 5)

    def test_against_counting_place_by_place(self):
        for table in STEADY + UNSTEADY:
            for one in range(len(table)):
                for other in range(len(table)):
                    self.told(plain_shares(table, one, other), shares_of, table, one, other)

    def test_no_place_of_either(self):
        for table in (ONE, TWO, PATH, CUBE):
            for place in no_whole_below(len(table)):
                self.refused(NoPlace, shares_of, table, place, 0)
                self.refused(NoPlace, shares_of, table, 0, place)
                self.refused(NoPlace, shares_of, table, place, place)


class SteadyTest(RefusalCase):
    def test_steady_tables_have_no_break(self):
        for table in STEADY:
            self.told(True, is_steady, table)
            self.told(None, first_break, table)

    def test_one_pair_otherwise(self):
        for table in UNSTEADY:
            self.told(False, is_steady, table)
            self.told(plain_breaks(table)[0], first_break, table)

    def test_every_one_pair_of_the_cube_otherwise(self):
        for a in range(8):
            for b in range(a):
                for kind in (1, 2, 3):
                    table = otherwise(CUBE, a, b, kind)
                    self.told(kind == CUBE[a][b], is_steady, table)

    def test_first_breaks_counted_by_hand(self):
        self.told((0, 0, 1, 1), first_break, PATH)
        self.told((0, 1, 0, 3), first_break, PRISM)
        # The places 6 and 7 alone are near by 2.
        self.told((0, 0, 6, 6), first_break, otherwise(alike(8), 6, 7, 2))

    def test_all_tables_of_few_places(self):
        for many in range(1, 5):
            for table in all_tables(many):
                breaks = plain_breaks(table)
                self.assertIs(is_steady(table), not breaks)
                self.assertEqual(first_break(table), breaks[0] if breaks else None)

    def test_every_tuple_of_four_places(self):
        for table in (ONE, TWO, PATH, PRISM, ring(5), otherwise(alike(4), 0, 1, 2)):
            breaks = set(plain_breaks(table))
            places = range(len(table))
            for thing in [(a, b, c, e) for a in places for b in places for c in places for e in places]:
                self.assertIs(is_break(table, thing), thing in breaks)

    def test_a_break_by_order_alone(self):
        self.told(True, is_break, PATH, (0, 1, 1, 0))
        self.told(False, is_break, PATH, (0, 1, 2, 1))

    def test_unlike_kinds_are_no_break(self):
        self.told(False, is_break, PATH, (0, 0, 0, 1))
        self.told(False, is_break, PATH, (0, 1, 0, 2))

    def test_other_things_are_no_break(self):
        for thing in NO_TABLES + no_wholes(4):
            self.told(False, is_break, PATH, thing)
            self.told(False, is_break, CUBE, thing)
        self.told(True, is_break, PATH, (0, 0, 1, 1))
        for thing in (
            [0, 0, 1, 1], (0, 0, 1), (0, 0, 1, 1, 1), (0, 0, 1, True), (False, 0, 1, 1), (0, 0, 1, 3),
            (0, 0, 1, -2), (0, 0, -2, -2), (-3, -3, 1, 1), (3, 3, 1, 1), ((0, 0), (1, 1)), (0, 0, "1", "1"),
            (0, 0, None, None), ([0], 0, 1, 1), {0: 0, 1: 0, 2: 1, 3: 1}, "0011", (0, 0, 10 ** 29, 1),
        ):
            self.told(False, is_break, PATH, thing)


if __name__ == "__main__":
    unittest.main()
