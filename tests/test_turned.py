"""Points 41, 42 and 43, and 2 to 4 as far as turned weights reach."""

import itertools
import math
import unittest
from fractions import Fraction

from nearkinds.errors import NoNumber, NoTable, NotSteady, NotWhole
from nearkinds.mixes import sizes
from nearkinds.turned import greatest_divisor, lowest, self_order, turned_number, turned_weights
from nearkinds.weights import all_weights
from refusing import RefusalCase
from samples import (
    CUBE, NO_TABLES, NOT_WHOLE, ONE, STEADY, TWO, UNSTEADY, WHOLE, alike, beside, blocks, grid, no_whole_below, pairs,
    renamed, ring, unlike_bits, within,
)

ANYTHING = [None, True, 0, 1, -1, 99, 10 ** 29, "0", "", (), (0,), [0], {}, {0: 0}]

# Of each: how often the weights come, times the weight, divided by the size, worked out by hand.
BY_HAND = [
    (ONE, ((1,),)),
    (TWO, ((1, 1), (1, -1))),
    (alike(4), ((1, 1), (3, -1))),
    (alike(8), ((1, 1), (7, -1))),
    (blocks(2, 3), ((1, 1, 1), (1, 1, -1), (4, -2, 0))),
    (renamed(blocks(2, 3), (0, 2, 1)), ((1, 1, 1), (4, 0, -2), (1, -1, 1))),
    (pairs(4), ((1, 1, 1), (3, 0, -3), (2, -1, 2))),
    (ring(6), ((1, 1, 1, 1), (2, 1, -1, -2), (2, -1, -1, 2), (1, -1, 1, -1))),
    (CUBE, ((1, 1, 1, 1), (3, 1, -1, -3), (3, -1, -1, 3), (1, -1, 1, -1))),
    (grid(2, 3), ((1, 1, 1, 1), (1, 1, -1, -1), (2, -1, 2, -1), (2, -1, -2, 1))),
]


def pair(fraction):
    return (fraction.numerator, fraction.denominator)


def plain_often(table, weights):
    return len(table) / sum(Fraction(weight * weight, size) for weight, size in zip(weights, sizes(table)))


def plain_turned(table):
    return [
        [plain_often(table, weights) * weight / size for weight, size in zip(weights, sizes(table))]
        for weights in all_weights(table)
    ]


def plain_turned_number(table, one, other, third):
    found = all_weights(table)
    summed = sum(
        Fraction(found[one][kind] * found[other][kind] * found[third][kind], size * size)
        for kind, size in enumerate(sizes(table))
    )
    return plain_often(table, found[one]) * plain_often(table, found[other]) / len(table) * summed


def plain_self_orders(table):
    """All orders by which the table turns to itself, rising, straight from the words of point 43."""
    found = all_weights(table)
    turned = plain_turned(table)
    kinds = range(len(found))
    return [
        order
        for order in itertools.permutations(kinds)
        if order[0] == 0 and all(found[order[i]][j] == turned[order[j]][i] for i in kinds for j in kinds)
    ]


class FractionTest(unittest.TestCase):
    def test_lowest_terms(self):
        for top in range(-40, 41):
            for bottom in range(1, 41):
                told = lowest(top, bottom)
                self.assertEqual(told, pair(Fraction(top, bottom)))
                self.assertGreater(told[1], 0)

    def test_greatest_divisor(self):
        for one in range(30):
            for other in range(30):
                if one or other:
                    self.assertEqual(greatest_divisor(one, other), math.gcd(one, other))


class TurnedWeightsTest(RefusalCase):
    def test_by_hand(self):
        for table, rows in BY_HAND:
            self.told(tuple(tuple((top, 1) for top in row) for row in rows), turned_weights, table)

    def test_against_fractions(self):
        for table in WHOLE:
            expected = tuple(tuple(pair(part) for part in row) for row in plain_turned(table))
            self.told(expected, turned_weights, table)

    def test_lowest_terms_with_the_bottom_above_nought(self):
        for table in WHOLE:
            for row in turned_weights(table):
                for top, bottom in row:
                    self.assertGreater(bottom, 0)
                    self.assertEqual(math.gcd(top, bottom), 1)

    def test_turned_twice_they_are_the_weights_many_times(self):
        for table in WHOLE:
            found = all_weights(table)
            turned = turned_weights(table)
            kinds = range(len(found))
            for i in kinds:
                for j in kinds:
                    summed = sum(found[at][i] * Fraction(*turned[at][j]) for at in kinds)
                    self.assertEqual(summed, len(table) if i == j else 0)

    def test_refused(self):
        for call in (turned_weights, self_order):
            for table in NOT_WHOLE:
                self.refused(NotWhole, call, table)
            for table in UNSTEADY:
                self.refused(NotSteady, call, table)
            for table in NO_TABLES:
                self.refused(NoTable, call, table)


class TurnedNumberTest(RefusalCase):
    def test_by_hand(self):
        self.told((1, 1), turned_number, ONE, 0, 0, 0)
        self.told((1, 1), turned_number, TWO, 1, 1, 0)
        self.told((0, 1), turned_number, TWO, 1, 1, 1)
        self.told((3, 1), turned_number, alike(4), 1, 1, 0)
        # Of alike(4): 3 times 3, divided by 4, times (1 - 1 / 9).
        self.told((2, 1), turned_number, alike(4), 1, 1, 1)
        # Of blocks(2, 3): 4 times 4, divided by 6, times (1 - 1 / 4); then 1 times 4, divided by 6, times (1 + 2 / 4).
        self.told((2, 1), turned_number, blocks(2, 3), 2, 2, 2)
        self.told((1, 1), turned_number, blocks(2, 3), 1, 2, 2)
        self.told((4, 1), turned_number, blocks(2, 3), 2, 2, 1)
        self.told((0, 1), turned_number, blocks(2, 3), 1, 1, 2)

    def test_against_fractions(self):
        for table in WHOLE:
            places = range(len(all_weights(table)))
            for one, other, third in itertools.product(places, repeat=3):
                if len(places) == 8 and (one + other + third) % 5:
                    continue
                expected = plain_turned_number(table, one, other, third)
                self.assertGreaterEqual(expected, 0)
                self.told(pair(expected), turned_number, table, one, other, third)

    def test_turned_weights_multiply_by_turned_numbers(self):
        for table in (ONE, TWO, alike(5), blocks(2, 3), pairs(4), ring(6), CUBE, grid(2, 3), within(ring(4), TWO)):
            turned = [[Fraction(*part) for part in row] for row in turned_weights(table)]
            places = range(len(turned))
            for one, other in itertools.product(places, repeat=2):
                numbers = [Fraction(*turned_number(table, one, other, third)) for third in places]
                for kind in places:
                    summed = sum(number * turned[third][kind] for third, number in enumerate(numbers))
                    self.assertEqual(turned[one][kind] * turned[other][kind], summed)

    def test_no_number_of_each(self):
        for table in (ONE, TWO, CUBE, blocks(2, 3), unlike_bits(8)):
            many = len(all_weights(table))
            last = many - 1
            for wrong in no_whole_below(many):
                self.refused(NoNumber, turned_number, table, wrong, 0, last)
                self.refused(NoNumber, turned_number, table, last, wrong, 0)
                self.refused(NoNumber, turned_number, table, 0, last, wrong)
                self.refused(NoNumber, turned_number, table, wrong, wrong, wrong)

    def test_not_whole_not_steady_and_no_table_are_ahead(self):
        for thing in ANYTHING:
            for handed in ((thing, 0, 0), (0, thing, 0), (0, 0, thing)):
                for table in NOT_WHOLE:
                    self.refused(NotWhole, turned_number, table, *handed)
                for table in UNSTEADY:
                    self.refused(NotSteady, turned_number, table, *handed)
                for table in NO_TABLES:
                    self.refused(NoTable, turned_number, table, *handed)


class SelfOrderTest(RefusalCase):
    def test_by_hand(self):
        self.told((0,), self_order, ONE)
        self.told((0, 1), self_order, TWO)
        self.told((0, 1), self_order, alike(8))
        self.told((0, 1, 2, 3), self_order, CUBE)
        self.told((0, 1, 2, 3, 4, 5, 6, 7), self_order, unlike_bits(8))
        self.told((0, 3, 1, 2), self_order, within(TWO, ring(4)))

    def test_none(self):
        # How often the weights come is 1, 1, 4 of the first and 1, 3, 2 of the second: not their sizes.
        self.told(None, self_order, blocks(2, 3))
        self.told(None, self_order, pairs(4))

    def test_all_orders_are_tried(self):
        told = []
        named = [renamed(CUBE, (0,) + names) for names in itertools.permutations((1, 2, 3))]
        halves = [renamed(beside(TWO, alike(4)), (0,) + names) for names in itertools.permutations((1, 2, 3))]
        for table in STEADY + named + halves:
            if table in WHOLE or table in named or table in halves:
                if len(all_weights(table)) < 8:
                    found = plain_self_orders(table)
                    told.append(found[0] if found else None)
                    self.told(told[-1], self_order, table)
        self.assertIn(None, told)
        self.assertTrue(any(order and order != tuple(range(len(order))) for order in told))


if __name__ == "__main__":
    unittest.main()
