"""Points 51, 52 and 53, and 2 to 4 as far as lots reach."""

import itertools
import unittest

from nearkinds.errors import NoKinds, NoLot, NoPaper, NoTable, NotSteady, TooMany
from nearkinds.lots import best_mix, greatest, is_free, is_paper, most, shows, spread
from refusing import RefusalCase
from samples import (
    CUBE, NO_TABLES, ONE, PATH, PRISM, STEADY, TWO, UNSTEADY, alike, all_tables, blocks, deep, greater_one, grid,
    kinds_of, no_rising, no_wholes, pairs, plain_number, plain_square, ring, rows_by_columns, some_mixes, subsets,
    unlike_bits,
)

SOME_TABLES = STEADY + UNSTEADY + list(all_tables(3)) + list(all_tables(4))[::7]
WRONG_AT = (ONE, TWO, PATH, CUBE, ring(5), unlike_bits(8), greater_one(8))
ANYTHING = [None, True, 0, 1, -1, "", "0", (), (1,), (0, 1), [], [1], {}, {1: 1}, (0,), ((1, -1),), deep(12)]


def told_kinds(table):
    return subsets(kinds_of(table)[1:])


def plain_spread(table, lot):
    return [sum(table[a][b] == kind for a in lot for b in lot) for kind in kinds_of(table)]


def plain_free(table, kinds, lot):
    return all(table[a][b] in kinds for a in lot for b in lot if a != b)


def plain_greatest(table, kinds):
    free = [lot for lot in subsets(range(len(table))) if plain_free(table, kinds, lot)]
    longest = max(len(lot) for lot in free)
    return [lot for lot in free if len(lot) == longest]


def plain_sums(table, mixes):
    """The numbers of the mixes' products by themselves, added, kind by kind, read off their squares."""
    products = [rows_by_columns(plain_square(table, mix), plain_square(table, mix)) for mix in mixes]
    sums = {}
    for a, row in enumerate(table):
        for b, kind in enumerate(row):
            number = sum(rows[a][b] for rows in products)
            assert sums.setdefault(kind, number) == number
    return [sums[kind] for kind in kinds_of(table)]


def plain_shown(sums, kinds):
    """What mixes with these numbers show of told kinds, None where they are no paper."""
    if not kinds or any(sums[kind] >= 0 for kind in kinds):
        return None
    return 1 + sums[0] // min(-sums[kind] for kind in kinds)


class SpreadTest(RefusalCase):
    def test_by_hand(self):
        self.told([0], spread, ONE, ())
        self.told([1], spread, ONE, (0,))
        self.told([0, 0, 0], spread, PATH, ())
        self.told([2, 2, 0], spread, PATH, (0, 1))
        self.told([2, 0, 2], spread, PATH, (0, 2))
        self.told([3, 4, 2], spread, PATH, (0, 1, 2))
        self.told([8, 24, 24, 8], spread, CUBE, (0, 1, 2, 3, 4, 5, 6, 7))
        self.told([4, 0, 12, 0], spread, CUBE, (0, 3, 5, 6))

    def test_every_lot(self):
        for table in SOME_TABLES:
            for lot in subsets(range(len(table))):
                self.assertEqual(spread(table, lot), plain_spread(table, lot))

    def test_a_told_list_is_the_askers_own(self):
        told = spread(CUBE, (0, 1))
        again = spread(CUBE, (0, 1))
        told.append(7)
        self.assertEqual(again, [2, 2, 0, 0])
        self.assertEqual(spread(CUBE, (0, 1)), again)

    def test_refused(self):
        for table in WRONG_AT:
            for thing in no_rising(0, len(table) - 1):
                self.refused(NoLot, spread, table, thing)
        for table in NO_TABLES:
            for thing in ANYTHING:
                self.refused(NoTable, spread, table, thing)


class FreeTest(RefusalCase):
    def test_by_hand(self):
        self.told(True, is_free, ONE, (), ())
        self.told(True, is_free, ONE, (), (0,))
        self.told(True, is_free, PATH, (), ())
        self.told(True, is_free, PATH, (), (2,))
        self.told(False, is_free, PATH, (), (0, 2))
        self.told(True, is_free, PATH, (2,), (0, 2))
        self.told(False, is_free, PATH, (1,), (0, 2))
        self.told(False, is_free, PATH, (1,), (0, 1, 2))
        self.told(True, is_free, PATH, (1, 2), (0, 1, 2))
        self.told(True, is_free, CUBE, (2,), (0, 3, 5, 6))
        self.told(False, is_free, CUBE, (2,), (0, 3, 5, 7))

    def test_every_lot(self):
        for table in SOME_TABLES:
            some = told_kinds(table)
            for kinds in some[::1 + len(some) // 12]:
                for lot in subsets(range(len(table))):
                    self.assertIs(is_free(table, kinds, lot), plain_free(table, kinds, lot))

    def test_refused(self):
        for table in WRONG_AT:
            kinds = tuple(kinds_of(table)[1:])
            lot = tuple(range(len(table)))
            for thing in no_rising(1, len(kinds)):
                self.refused(NoKinds, is_free, table, thing, lot)
            for thing in no_rising(0, len(table) - 1):
                self.refused(NoLot, is_free, table, kinds, thing)
                self.refused(NoLot, is_free, table, (), thing)

    def test_no_kinds_is_ahead_of_no_lot_and_behind_no_table(self):
        for table in WRONG_AT:
            for thing in no_rising(1, len(kinds_of(table)) - 1):
                self.refused(NoKinds, is_free, table, thing, [0])
                self.refused(NoKinds, is_free, table, thing, thing)
        for table in NO_TABLES:
            for thing in ANYTHING:
                self.refused(NoTable, is_free, table, thing, ())
                self.refused(NoTable, is_free, table, (), thing)


class GreatestTest(RefusalCase):
    def test_by_hand(self):
        for table, kinds, lots in [
            (ONE, (), [(0,)]),
            (TWO, (), [(0,), (1,)]),
            (TWO, (1,), [(0, 1)]),
            (PATH, (1,), [(0, 1), (1, 2)]),
            (PATH, (2,), [(0, 2)]),
            (PATH, (1, 2), [(0, 1, 2)]),
            (CUBE, (2,), [(0, 3, 5, 6), (1, 2, 4, 7)]),
            (CUBE, (3,), [(0, 7), (1, 6), (2, 5), (3, 4)]),
            (alike(8), (), [(place,) for place in range(8)]),
            (alike(8), (1,), [(0, 1, 2, 3, 4, 5, 6, 7)]),
            (PRISM, (1,), [(0, 1, 2), (3, 4, 5)]),
            (ring(5), (2,), [(0, 2), (0, 3), (1, 3), (1, 4), (2, 4)]),
        ]:
            self.told(lots, greatest, table, kinds)
            self.told(len(lots[0]), most, table, kinds)

    def test_every_lot_is_tried(self):
        for table in SOME_TABLES:
            for kinds in told_kinds(table):
                lots = plain_greatest(table, kinds)
                self.assertEqual(greatest(table, kinds), lots)
                self.assertEqual(most(table, kinds), len(lots[0]))

    def test_told_kinds_times_the_others(self):
        for table in STEADY:
            for kinds in told_kinds(table):
                others = tuple(kind for kind in kinds_of(table)[1:] if kind not in kinds)
                self.assertLessEqual(most(table, kinds) * most(table, others), len(table))

    def test_a_told_list_is_the_askers_own(self):
        told = greatest(PATH, (1,))
        again = greatest(PATH, (1,))
        told.clear()
        self.assertEqual(again, [(0, 1), (1, 2)])
        self.assertEqual(greatest(PATH, (1,)), again)
        self.assertEqual(most(PATH, (1,)), 2)

    def test_refused(self):
        for call in (most, greatest):
            for table in WRONG_AT:
                for thing in no_rising(1, len(kinds_of(table)) - 1):
                    self.refused(NoKinds, call, table, thing)
            for table in NO_TABLES:
                for thing in ANYTHING:
                    self.refused(NoTable, call, table, thing)


class PaperTest(RefusalCase):
    def paper(self, shown, table, kinds, thing):
        """It is a paper and shows just this, or, where that is None, it is none."""
        self.told(shown is not None, is_paper, table, kinds, thing)
        if shown is None:
            self.refused(NoPaper, shows, table, kinds, thing)
        else:
            self.told(shown, shows, table, kinds, thing)

    def test_by_hand(self):
        self.paper(2, TWO, (1,), ((1, -1),))
        # 9 and 1, divided by 6.
        self.paper(2, TWO, (1,), ((-3, 1),))
        # 25 and 1, divided by 10; then 16 and 1, divided by 8.
        self.paper(3, TWO, (1,), ((5, -1),))
        self.paper(3, TWO, (1,), ((-1, 4),))
        self.paper(8, alike(8), (1,), ((-7, 1),))
        self.paper(12, alike(8), (1,), ((-4, 1),))
        self.paper(None, alike(8), (1,), ((-3, 1),))
        self.paper(None, TWO, (1,), ((0, 0),))
        self.paper(None, TWO, (1,), ((1, 0),))
        self.paper(None, TWO, (1,), ((1, 1),))

    def test_the_least_of_several_kinds_counts(self):
        # By itself the mix has (10, -6, 0, 0), the second one (5, 0, -4, 0).
        table = unlike_bits(4)
        mix = (1, 1, 2, -2)
        self.assertEqual(plain_sums(table, [mix]), [10, -6, 0, 0])
        self.paper(2, table, (1,), (mix,))
        self.paper(None, table, (1, 2), (mix,))
        self.assertEqual(plain_sums(table, [mix, (2, 0, -1, 0)]), [15, -6, -4, 0])
        self.paper(4, table, (1, 2), (mix, (2, 0, -1, 0)))
        self.paper(3, table, (1,), (mix, (2, 0, -1, 0)))
        self.paper(4, table, (2,), (mix, (2, 0, -1, 0)))

    def test_a_number_of_nought_at_a_told_kind(self):
        # (1, -1, 0, 0) has (2, -2, 0, 0), (1, 0, -1, 0) has (2, 0, -2, 0): no paper but together.
        table = unlike_bits(4)
        self.paper(None, table, (1, 2), ((1, -1, 0, 0),))
        self.paper(None, table, (1, 2), ((1, 0, -1, 0),))
        self.paper(3, table, (1, 2), ((1, -1, 0, 0), (1, 0, -1, 0)))

    def test_one_to_four_mixes(self):
        for many in range(1, 5):
            self.paper(2, TWO, (1,), ((1, -1),) * many)
        self.paper(None, TWO, (1,), ())
        self.paper(None, TWO, (1,), ((1, -1),) * 5)

    def test_four_mixes_count_all(self):
        table = unlike_bits(8)
        mixes = tuple(tuple({0: 1, kind: -1}.get(at, 0) for at in range(8)) for kind in (1, 2, 4, 7))
        self.paper(5, table, (1, 2, 4, 7), mixes)
        for left_out in range(4):
            self.paper(None, table, (1, 2, 4, 7), mixes[:left_out] + mixes[left_out + 1:])

    def test_numbers_at_the_limits(self):
        self.paper(2, TWO, (1,), ((99, -99),))
        self.paper(2, TWO, (1,), ((-99, 99),))
        for mix in ((100, -99), (99, -100), (-100, 99), (-99, 100), (100, -100), (10 ** 29, -10 ** 29)):
            self.paper(None, TWO, (1,), (mix,))
            self.paper(None, TWO, (1,), ((1, -1), mix))
            self.paper(None, TWO, (1,), ((1, -1), (1, -1), (1, -1), mix))

    def test_no_kind_told(self):
        for table in (ONE, TWO, CUBE, ring(5)):
            many = len(kinds_of(table))
            for thing in ((), ((1,) + (0,) * (many - 1),), ((1,) + (-1,) * (many - 1),), ((0,) * many,), None, []):
                self.paper(None, table, (), thing)

    def test_other_things(self):
        for table in (TWO, CUBE, unlike_bits(8)):
            kinds = tuple(kinds_of(table)[1:])
            mix = (99,) + (-1,) * len(kinds)
            self.assertIsNotNone(plain_shown(plain_sums(table, [mix]), kinds))
            self.told(True, is_paper, table, kinds, (mix,))
            for thing in no_wholes(len(mix)):
                self.paper(None, table, kinds, thing)
                self.paper(None, table, kinds, (thing,))
                self.paper(None, table, kinds, (mix, thing))
                self.paper(None, table, kinds, (thing, mix))
            for thing in (mix, [mix], [list(mix)], (list(mix),), ((mix,),), {0: mix}, {mix: mix}, (deep(11),)):
                self.paper(None, table, kinds, thing)

    def test_small_mixes_against_squares(self):
        for table in STEADY:
            some = some_mixes(table)[:-1] + [(2,) + (-1,) * (len(kinds_of(table)) - 1)]
            for mixes in [(mix,) for mix in some] + list(zip(some, some[1:])) + [tuple(some[-4:])]:
                sums = plain_sums(table, mixes)
                for kinds in told_kinds(table)[:20]:
                    self.paper(plain_shown(sums, kinds), table, kinds, mixes)

    def test_no_free_lot_has_more_places(self):
        papers = 0
        for table in (TWO, alike(3), alike(5), ring(4), ring(5), ring(6), blocks(2, 3), pairs(4), CUBE):
            many = len(kinds_of(table))
            for mix in itertools.product((-2, 0, 1), repeat=many):
                for kinds in told_kinds(table):
                    for paper in ((mix,), (mix, (3,) + (-1,) * (many - 1))):
                        if is_paper(table, kinds, paper):
                            papers += 1
                            self.assertLessEqual(most(table, kinds), shows(table, kinds, paper))
        self.assertGreater(papers, 100)

    def test_no_kinds_is_ahead_of_no_paper(self):
        for table in (ONE, TWO, CUBE, ring(5), unlike_bits(8)):
            many = len(kinds_of(table))
            for thing in no_rising(1, many - 1):
                for paper in (((1,) + (-1,) * (many - 1),), (), None, [[1]]):
                    self.refused(NoKinds, is_paper, table, thing, paper)
                    self.refused(NoKinds, shows, table, thing, paper)

    def test_not_steady_and_no_table_are_ahead(self):
        for call in (is_paper, shows):
            for thing in ANYTHING:
                for table in UNSTEADY:
                    self.refused(NotSteady, call, table, thing, thing)
                    self.refused(NotSteady, call, table, (1,), thing)
                for table in NO_TABLES:
                    self.refused(NoTable, call, table, thing, thing)


class BestMixTest(RefusalCase):
    def test_by_hand(self):
        # 10 divided by 6 shows two places; nothing shows fewer, as there are lots of two.
        self.told((-3, 1), best_mix, TWO, (1,))
        # 15 divided by 1; other numbers show nothing.
        self.told((-3, 1), best_mix, alike(7), (1,))
        self.assertEqual(shows(alike(7), (1,), ((-3, 1),)), 16)

    def test_none(self):
        # At the kind 1 stands b times (2 a + 6 b), which is not below 0 for these numbers.
        self.told(None, best_mix, alike(8), (1,))

    def test_all_small_mixes_are_tried(self):
        told = []
        for table in STEADY:
            if len(kinds_of(table)) > 4:
                continue
            sums = self.sums_of_small_mixes(table)
            for kinds in told_kinds(table)[1:]:
                shown = {mix: plain_shown(numbers, kinds) for mix, numbers in sums.items()}
                papers = [mix for mix in sorted(shown) if shown[mix] is not None]
                told.append(min(papers, key=shown.get, default=None))
                self.told(told[-1], best_mix, table, kinds)
        self.assertIn(None, told)

    def sums_of_small_mixes(self, table):
        kinds = kinds_of(table)
        numbers = [(i, j, k, plain_number(table, i, j, k)) for i in kinds for j in kinds for k in kinds]
        sums = {}
        for mix in itertools.product(range(-3, 4), repeat=len(kinds)):
            sums[mix] = [0] * len(kinds)
            for i, j, k, number in numbers:
                sums[mix][k] += mix[i] * mix[j] * number
        return sums

    def test_it_is_a_paper_alone(self):
        for table in (TWO, ring(4), ring(5), ring(6), ring(7), pairs(4), CUBE, grid(2, 3), unlike_bits(4)):
            for kinds in told_kinds(table)[1:]:
                mix = best_mix(table, kinds)
                if mix is not None:
                    self.assertIs(is_paper(table, kinds, (mix,)), True)
                    self.assertGreaterEqual(shows(table, kinds, (mix,)), most(table, kinds))

    def test_no_kinds(self):
        for table in (ONE, TWO, alike(8), ring(5), CUBE, unlike_bits(4)):
            for thing in no_rising(1, len(kinds_of(table)) - 1) + [()]:
                self.refused(NoKinds, best_mix, table, thing)

    def test_too_many_is_ahead_of_no_kinds(self):
        for table in STEADY:
            if len(kinds_of(table)) > 4:
                for thing in ANYTHING + [(1, 2, 3, 4), (99,)]:
                    self.refused(TooMany, best_mix, table, thing)
        self.assertEqual(len(kinds_of(ring(8))), 5)
        self.refused(TooMany, best_mix, ring(8), (1,))
        self.refused(TooMany, best_mix, ring(8), ())

    def test_not_steady_and_no_table_are_ahead(self):
        for thing in ANYTHING:
            for table in UNSTEADY:
                self.refused(NotSteady, best_mix, table, thing)
            for table in NO_TABLES:
                self.refused(NoTable, best_mix, table, thing)
        self.assertTrue(any(len(kinds_of(table)) > 4 for table in UNSTEADY))


if __name__ == "__main__":
    unittest.main()
