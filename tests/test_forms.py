"""Points 91 and 92, and 2 to 4 as far as forms reach."""

import itertools
import unittest

from nearkinds.errors import NoNumber, NoTable, TooMany
from nearkinds.forms import all_steady, first_order, form_of
from nearkinds.tables import is_steady, is_table
from refusing import RefusalCase
from samples import (
    CUBE, NO_TABLES, ONE, PATH, PRISM, STEADY, TWO, UNSTEADY, alike, all_tables, blocks, deep, greater_one, grid,
    kinds_of, made, no_whole_below, otherwise, pairs, plain_breaks, renamed, reordered, ring, unlike_bits, within,
)

FOUR_PATH = made(4, lambda a, b: abs(a - b))
FIVE_PATH = made(5, lambda a, b: abs(a - b))
SIX_PATH = made(6, lambda a, b: min(abs(a - b), 3))
FIVE_RING = ((0, 1, 1, 2, 2), (1, 0, 2, 1, 2), (1, 2, 0, 2, 1), (2, 1, 2, 0, 1), (2, 2, 1, 1, 0))
FIVE = [alike(5), ring(5), FIVE_PATH, otherwise(ring(5), 1, 4, 1), otherwise(alike(5), 1, 2, 2), greater_one(5)]
SIX = [
    alike(6), ring(6), PRISM, pairs(4), blocks(2, 3), grid(2, 3), SIX_PATH, otherwise(pairs(4), 2, 4, 2),
    within(TWO, PATH), within(PATH, TWO), greater_one(6),
]
FEW_PLACES = [ONE, TWO] + list(all_tables(3)) + list(all_tables(4))[::5] + FIVE + SIX
MANY_PLACES = [table for table in STEADY + UNSTEADY if len(table) > 6] + [greater_one(7), greater_one(8)]


def orders_of(many):
    """All orders of so many places, rising."""
    return list(itertools.permutations(range(many)))


def all_names(many):
    """All ways to name kinds from 1 on otherwise."""
    return [(0,) + names for names in itertools.permutations(range(1, many))]


def plain_alike(table):
    """All tables alike with it, places and kinds named in all ways."""
    names = all_names(len(kinds_of(table)))
    return {
        renamed(reordered(table, order), by) for order in orders_of(len(table)) for by in names
    }


def is_one_but_for_names(one, other):
    """Whether the kinds of the one, named otherwise, are those of the other."""
    led = {(x, y) for row, second in zip(one, other) for x, y in zip(row, second)}
    return len(led) == len({x for x, y in led}) == len({y for x, y in led})


def plain_first_order(one, other):
    if len(one) != len(other):
        return None
    for order in orders_of(len(one)):
        if is_one_but_for_names(reordered(one, order), other):
            return order
    return None


def level_tables(many):
    """All tables that have each kind as often in each row, kinds named as they first come, built pair by pair.

    Kind 0 comes once in each row, so its shares tell of all kinds how often they come at a place:
    where a kind comes more often than at the place 0, the table is not steady.
    """
    two = list(itertools.combinations(range(many), 2))
    found = [()]
    for at, (a, b) in enumerate(two):
        longer = []
        for kinds in found:
            for kind in range(1, max(kinds, default=0) + 2):
                named = dict(zip(two, kinds + (kind,)))
                by_place = [[k for pair, k in named.items() if place in pair] for place in (0, a, b)]
                if a == 0 or all(row.count(kind) <= by_place[0].count(kind) for row in by_place[1:]):
                    longer.append(kinds + (kind,))
        found = longer
    for kinds in found:
        named = dict(zip(two, kinds))
        yield made(many, lambda a, b: 0 if a == b else named[min(a, b), max(a, b)])


class FormTest(RefusalCase):
    def test_by_hand(self):
        self.told(ONE, form_of, ONE)
        self.told(TWO, form_of, TWO)
        self.told(((0, 1, 1), (1, 0, 2), (1, 2, 0)), form_of, PATH)
        self.told(((0, 1, 1), (1, 0, 2), (1, 2, 0)), form_of, ((0, 2, 2), (2, 0, 1), (2, 1, 0)))
        self.told(((0, 1, 1, 2), (1, 0, 2, 1), (1, 2, 0, 1), (2, 1, 1, 0)), form_of, ring(4))
        self.told(((0, 1, 1, 2), (1, 0, 2, 1), (1, 2, 0, 1), (2, 1, 1, 0)), form_of, blocks(2, 2))
        self.told(unlike_bits(4), form_of, renamed(unlike_bits(4), (0, 2, 3, 1)))
        self.told(FIVE_RING, form_of, ring(5))
        for many in range(1, 7):
            self.told(alike(many), form_of, alike(many))

    def test_the_least_of_all_tables_alike(self):
        greater = FIVE[:5] + [ring(6), PRISM, SIX_PATH, within(TWO, PATH)]
        for table in [ONE, TWO] + list(all_tables(3)) + list(all_tables(4)) + greater:
            self.told(min(plain_alike(table)), form_of, table)

    def test_the_same_for_all_tables_alike(self):
        for table in FIVE + SIX:
            form = form_of(table)
            names = all_names(len(kinds_of(table)))
            for at, order in enumerate(orders_of(len(table))[::29]):
                by = names[at * 7 % len(names)]
                self.told(form, form_of, renamed(reordered(table, order), by))

    def test_unlike_tables_have_unlike_forms(self):
        tables = list(all_tables(4))
        by_form = {}
        for table in tables:
            by_form.setdefault(form_of(table), set()).add(table)
        for form, found in by_form.items():
            self.assertEqual(found, plain_alike(form))
        self.assertEqual(sum(map(len, by_form.values())), len(tables))

    def test_a_form_is_its_own(self):
        for table in FEW_PLACES:
            form = form_of(table)
            self.assertIs(is_table(form), True)
            self.assertEqual(kinds_of(form), kinds_of(table))
            self.assertLessEqual(form, table)
            self.told(form, form_of, form)

    def test_too_many(self):
        self.assertEqual({len(table) for table in MANY_PLACES}, {7, 8})
        for table in MANY_PLACES:
            self.refused(TooMany, form_of, table)

    def test_no_table_is_ahead(self):
        for table in NO_TABLES + [list(PATH), list(CUBE), alike(9), greater_one(9), ring(7)[:6], ((0, 2), (2, 0))]:
            self.refused(NoTable, form_of, table)


class FirstOrderTest(RefusalCase):
    def test_by_hand(self):
        self.told((0,), first_order, ONE, ONE)
        self.told((0, 1), first_order, TWO, TWO)
        self.told((0, 1, 2), first_order, PATH, PATH)
        self.told((1, 0, 2), first_order, PATH, ((0, 1, 1), (1, 0, 2), (1, 2, 0)))
        self.told((1, 0, 2), first_order, ((0, 1, 1), (1, 0, 2), (1, 2, 0)), PATH)
        self.told(None, first_order, PATH, alike(3))
        self.told(None, first_order, alike(3), PATH)
        self.told((0, 2, 1, 3), first_order, ring(4), blocks(2, 2))
        self.told((0, 1, 2, 3), first_order, unlike_bits(4), renamed(unlike_bits(4), (0, 2, 3, 1)))
        self.told((1, 2, 0, 3), first_order, FOUR_PATH, reordered(FOUR_PATH, (1, 2, 0, 3)))
        self.told((2, 0, 1, 3), first_order, reordered(FOUR_PATH, (1, 2, 0, 3)), FOUR_PATH)

    def test_all_tables_of_three_places(self):
        for one, other in itertools.product(all_tables(3), repeat=2):
            self.told(plain_first_order(one, other), first_order, one, other)

    def test_tables_of_four_places(self):
        tables = list(all_tables(4))
        for one, other in itertools.product(tables[::23], tables[::19]):
            self.told(plain_first_order(one, other), first_order, one, other)

    def test_tables_of_five_and_six_places(self):
        for tables in (FIVE, SIX):
            for one, other in itertools.product(tables, repeat=2):
                self.told(plain_first_order(one, other), first_order, one, other)

    def test_places_and_kinds_named_otherwise(self):
        turned_about = 0
        for table in FIVE + SIX + list(all_tables(4))[::17]:
            names = all_names(len(kinds_of(table)))
            orders = orders_of(len(table))
            for at, order in enumerate(orders[::1 + len(orders) // 9]):
                other = renamed(reordered(table, order), names[at * 5 % len(names)])
                expected = plain_first_order(table, other)
                self.assertLessEqual(expected, order)
                self.told(expected, first_order, table, other)
                turned_about += first_order(other, table) != expected
        self.assertGreater(turned_about, 20)

    def test_alike_where_the_forms_are_one(self):
        tables = [ONE, TWO] + list(all_tables(3)) + FIVE + SIX
        for one, other in itertools.product(tables, repeat=2):
            same = len(one) == len(other) and form_of(one) == form_of(other)
            self.assertEqual(first_order(one, other) is not None, same)

    def test_as_many_places_are_needed(self):
        for one, other in itertools.product([ONE, TWO, PATH, alike(3), ring(4), ring(5), alike(6), ring(6)], repeat=2):
            if len(one) != len(other):
                self.told(None, first_order, one, other)

    def test_too_many_of_either(self):
        for table in MANY_PLACES:
            for right in (ONE, PATH, ring(6), ring(7), CUBE):
                self.refused(TooMany, first_order, table, right)
                self.refused(TooMany, first_order, right, table)

    def test_no_table_of_either_is_ahead(self):
        for thing in NO_TABLES + [list(PATH), alike(9), ring(7)[:6]]:
            for table in (ONE, PATH, ring(6), ring(7), CUBE, thing):
                self.refused(NoTable, first_order, thing, table)
                self.refused(NoTable, first_order, table, thing)


class AllSteadyTest(RefusalCase):
    def test_by_hand(self):
        self.told([ONE], all_steady, 1)
        self.told([TWO], all_steady, 2)
        self.told([alike(3)], all_steady, 3)
        self.told(
            [alike(4), ((0, 1, 1, 2), (1, 0, 2, 1), (1, 2, 0, 1), (2, 1, 1, 0)), unlike_bits(4)],
            all_steady, 4,
        )
        self.told([alike(5), FIVE_RING], all_steady, 5)
        self.told(
            [
                alike(6),
                (
                    (0, 1, 1, 1, 1, 2), (1, 0, 1, 1, 2, 1), (1, 1, 0, 2, 1, 1),
                    (1, 1, 2, 0, 1, 1), (1, 2, 1, 1, 0, 1), (2, 1, 1, 1, 1, 0),
                ),
                (
                    (0, 1, 1, 1, 2, 2), (1, 0, 2, 2, 1, 1), (1, 2, 0, 2, 1, 1),
                    (1, 2, 2, 0, 1, 1), (2, 1, 1, 1, 0, 2), (2, 1, 1, 1, 2, 0),
                ),
                (
                    (0, 1, 1, 2, 2, 3), (1, 0, 1, 2, 3, 2), (1, 1, 0, 3, 2, 2),
                    (2, 2, 3, 0, 1, 1), (2, 3, 2, 1, 0, 1), (3, 2, 2, 1, 1, 0),
                ),
            ],
            all_steady, 6,
        )

    def test_all_tables_of_few_places_are_tried(self):
        for many in range(1, 5):
            forms = {min(plain_alike(table)) for table in all_tables(many) if not plain_breaks(table)}
            self.told(sorted(forms), all_steady, many)

    def test_all_tables_of_five_and_six_places_that_may_be_steady(self):
        for many in (5, 6):
            forms = {min(plain_alike(table)) for table in level_tables(many) if not plain_breaks(table)}
            self.told(sorted(forms), all_steady, many)

    def test_each_is_steady_and_its_own_form(self):
        for many in range(1, 7):
            told = all_steady(many)
            self.assertEqual(told, sorted(set(told)))
            for table in told:
                self.assertEqual(len(table), many)
                self.assertIs(is_table(table), True)
                self.assertIs(is_steady(table), True)
                self.told(table, form_of, table)

    def test_all_known_ones_are_among_them(self):
        for table in STEADY:
            if len(table) <= 6:
                self.assertIn(form_of(table), all_steady(len(table)))

    def test_a_told_list_is_the_askers_own(self):
        told = all_steady(4)
        again = all_steady(4)
        self.assertIsNot(told, again)
        told.clear()
        self.assertEqual(len(again), 3)
        self.assertEqual(all_steady(4), again)

    def test_no_number(self):
        for thing in [0, 7] + no_whole_below(7) + [8, 1.0, "6", (6,), [6], {6: 6}, deep(12)]:
            self.refused(NoNumber, all_steady, thing)


if __name__ == "__main__":
    unittest.main()
