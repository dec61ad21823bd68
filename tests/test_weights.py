"""Points 31, 32 and 33, and 2 to 4 as far as weights reach."""

import itertools
import unittest
from fractions import Fraction

from nearkinds.errors import NoMix, NoNumbers, NoTable, NotSteady, NotWhole, NoWeights
from nearkinds.mixes import added, product, sizes
from nearkinds.weights import all_weights, are_weights, how_often, is_whole_table, mix_by, worth_by
from refusing import RefusalCase
from samples import (
    CUBE, NO_TABLES, NOT_WHOLE, ONE, STEADY, TWO, UNSTEADY, WHOLE, alike, blocks, grid, kinds_of, no_wholes, pairs,
    plain_are_weights, ring, some_mixes, unlike_bits,
)

ANYTHING = [None, True, 0, -1, 99, (), (1,), [1, 3, 3, 1], "1", {}, (1, 3, 3, 1), (1, 2, 2)]

# Weights worked out by hand, and how often they come.
BY_HAND = [
    (ONE, [(1,)], [1]),
    (TWO, [(1, 1), (1, -1)], [1, 1]),
    (alike(4), [(1, 3), (1, -1)], [1, 3]),
    (alike(8), [(1, 7), (1, -1)], [1, 7]),
    (ring(5), [(1, 2, 2)], [1]),
    (ring(7), [(1, 2, 2, 2)], [1]),
    (ring(6), [(1, 2, 2, 1), (1, 1, -1, -1), (1, -1, -1, 1), (1, -2, 2, -1)], [1, 2, 2, 1]),
    (ring(8), [(1, 2, 2, 2, 1), (1, 0, -2, 0, 1), (1, -2, 2, -2, 1)], [1, 2, 1]),
    (CUBE, [(1, 3, 3, 1), (1, 1, -1, -1), (1, -1, -1, 1), (1, -3, 3, -1)], [1, 3, 3, 1]),
    (blocks(2, 3), [(1, 2, 3), (1, 2, -3), (1, -1, 0)], [1, 1, 4]),
    (pairs(4), [(1, 4, 1), (1, 0, -1), (1, -2, 1)], [1, 3, 2]),
    (unlike_bits(4), [(1, 1, 1, 1), (1, 1, -1, -1), (1, -1, 1, -1), (1, -1, -1, 1)], [1, 1, 1, 1]),
    (grid(2, 3), [(1, 2, 1, 2), (1, 2, -1, -2), (1, -1, 1, -1), (1, -1, -1, 1)], [1, 1, 2, 2]),
]


class AllWeightsTest(RefusalCase):
    def test_by_hand(self):
        for table, expected, often in BY_HAND:
            self.told(expected, all_weights, table)

    def test_all_within_the_sizes_are_tried(self):
        for table in STEADY:
            if len(kinds_of(table)) > 5:
                continue
            ranges = [range(-size, size + 1) for size in sizes(table)]
            found = [tried for tried in itertools.product(*ranges) if plain_are_weights(table, tried)]
            self.told(sorted(found, reverse=True), all_weights, table)

    def test_as_many_kinds_as_places(self):
        found = all_weights(unlike_bits(8))
        self.assertEqual(len(found), 8)
        for weights in found:
            self.assertTrue(plain_are_weights(unlike_bits(8), weights))

    def test_falling_and_the_sizes_first(self):
        for table in STEADY:
            found = all_weights(table)
            self.assertIs(type(found), list)
            self.assertEqual(found[0], tuple(sizes(table)))
            self.assertEqual(found, sorted(set(found), reverse=True))
            self.assertTrue(all(type(weights) is tuple for weights in found))

    def test_a_told_list_is_the_askers_own(self):
        told = all_weights(CUBE)
        again = all_weights(CUBE)
        told.clear()
        told.append((1, 0, 0, 0))
        self.assertEqual(len(again), 4)
        self.assertEqual(all_weights(CUBE), again)
        self.assertIs(is_whole_table(CUBE), True)
        self.assertEqual(mix_by(CUBE, (8, 0, 0, 0)), (1, 1, 1, 1))

    def test_refused(self):
        for call in (all_weights, is_whole_table):
            for table in UNSTEADY:
                self.refused(NotSteady, call, table)
            for table in NO_TABLES:
                self.refused(NoTable, call, table)


class AreWeightsTest(RefusalCase):
    def test_weights(self):
        for table in STEADY:
            for weights in all_weights(table):
                self.told(True, are_weights, table, weights)

    def test_one_number_otherwise(self):
        for table in STEADY:
            found = all_weights(table)
            for weights in found:
                for at in range(len(weights)):
                    for step in (-1, 1, 10 ** 29):
                        other = weights[:at] + (weights[at] + step,) + weights[at + 1:]
                        self.told(plain_are_weights(table, other), are_weights, table, other)

    def test_the_weight_of_the_kind_nought_is_one(self):
        for table in STEADY:
            self.told(False, are_weights, table, (0,) * len(kinds_of(table)))
            self.told(False, are_weights, table, tuple(-size for size in sizes(table)))
        self.told(False, are_weights, ONE, (2,))

    def test_far_from_nought(self):
        self.told(False, are_weights, CUBE, (1, 10 ** 29, 10 ** 29, 1))
        self.told(False, are_weights, alike(4), (1, -10 ** 29))

    def test_other_things(self):
        for table in (ONE, TWO, CUBE, ring(5), unlike_bits(8)):
            for thing in no_wholes(len(kinds_of(table))):
                self.told(False, are_weights, table, thing)
        self.told(False, are_weights, ONE, (True,))
        self.told(False, are_weights, TWO, (True, 1))
        self.told(False, are_weights, TWO, (1, True))
        self.told(False, are_weights, TWO, [1, 1])
        self.told(False, are_weights, TWO, (1, 1, 1))
        self.told(False, are_weights, TWO, (1,))

    def test_refused(self):
        for thing in ANYTHING:
            for table in UNSTEADY:
                self.refused(NotSteady, are_weights, table, thing)
            for table in NO_TABLES:
                self.refused(NoTable, are_weights, table, thing)


class WholeTest(RefusalCase):
    def test_whole_and_not(self):
        for table in WHOLE:
            self.told(True, is_whole_table, table)
        for table in NOT_WHOLE:
            self.told(False, is_whole_table, table)

    def test_by_hand(self):
        for table, weights, often in BY_HAND:
            self.told(len(weights) == len(kinds_of(table)), is_whole_table, table)


class HowOftenTest(RefusalCase):
    def test_by_hand(self):
        for table, found, often in BY_HAND:
            for weights, times in zip(found, often):
                self.told(times, how_often, table, weights)

    def test_against_fractions(self):
        for table in STEADY:
            for weights in all_weights(table):
                whole = sum(Fraction(weight * weight, size) for weight, size in zip(weights, sizes(table)))
                expected = len(table) / whole
                self.assertEqual(expected.denominator, 1)
                self.told(int(expected), how_often, table, weights)

    def test_of_a_whole_table_they_come_to_many(self):
        for table in WHOLE:
            self.assertEqual(sum(how_often(table, weights) for weights in all_weights(table)), len(table))

    def test_refused(self):
        for table in (ONE, TWO, CUBE, ring(5)):
            for thing in no_wholes(len(kinds_of(table))):
                self.refused(NoWeights, how_often, table, thing)
        self.refused(NoWeights, how_often, CUBE, (1, 3, 3, -1))
        self.refused(NoWeights, how_often, CUBE, (0, 0, 0, 0))
        self.refused(NoWeights, how_often, CUBE, [1, 3, 3, 1])
        self.refused(NoWeights, how_often, TWO, (1, True))
        for thing in ANYTHING:
            for table in UNSTEADY:
                self.refused(NotSteady, how_often, table, thing)
            for table in NO_TABLES:
                self.refused(NoTable, how_often, table, thing)


class WorthTest(RefusalCase):
    def test_by_hand(self):
        self.told(-7, worth_by, ONE, (1,), (-7,))
        self.told(8, worth_by, CUBE, (1, 3, 3, 1), (1, 1, 1, 1))
        self.told(1 - 6 + 9 - 4, worth_by, CUBE, (1, -3, 3, -1), (1, 2, 3, 4))
        self.told(10 ** 29 - 3, worth_by, alike(4), (1, 3), (10 ** 29, -1))

    def test_worths_of_products_and_sums(self):
        for table in STEADY:
            for weights in all_weights(table):
                for one in some_mixes(table):
                    for other in some_mixes(table)[-4:]:
                        first = worth_by(table, weights, one)
                        second = worth_by(table, weights, other)
                        self.assertEqual(worth_by(table, weights, product(table, one, other)), first * second)
                        self.assertEqual(worth_by(table, weights, added(table, one, other)), first + second)

    def test_no_weights_is_ahead_of_no_mix(self):
        for table in (ONE, TWO, CUBE, ring(5)):
            many = len(kinds_of(table))
            weights = all_weights(table)[-1]
            mix = (1,) * many
            for thing in no_wholes(many):
                self.refused(NoWeights, worth_by, table, thing, mix)
                self.refused(NoMix, worth_by, table, weights, thing)
                self.refused(NoWeights, worth_by, table, thing, thing)
        self.refused(NoWeights, worth_by, CUBE, (1, 3, 3, 0), (1, 1, 1))
        self.refused(NoWeights, worth_by, CUBE, (1, 3, 3, 0), (1, 1, 1, 1))

    def test_not_steady_and_no_table_are_ahead(self):
        for thing in ANYTHING:
            for table in UNSTEADY:
                mix = (1,) * len(kinds_of(table))
                self.refused(NotSteady, worth_by, table, thing, mix)
                self.refused(NotSteady, worth_by, table, mix, thing)
            for table in NO_TABLES:
                self.refused(NoTable, worth_by, table, thing, thing)


class MixByTest(RefusalCase):
    def test_by_hand(self):
        self.told((-5,), mix_by, ONE, (-5,))
        self.told((2, 1), mix_by, alike(4), (5, 1))
        self.told((0, 0, 0, 0), mix_by, CUBE, (0, 0, 0, 0))
        self.told((1, 0, 0, 0), mix_by, CUBE, (1, 1, 1, 1))
        self.told((0, 1, 0, 0), mix_by, CUBE, (3, 1, -1, -3))

    def test_of_the_worths_of_a_mix(self):
        for table in WHOLE:
            for mix in some_mixes(table):
                worths = tuple(worth_by(table, weights, mix) for weights in all_weights(table))
                self.told(mix, mix_by, table, worths)

    def test_worths_that_no_mix_has(self):
        self.told(None, mix_by, TWO, (1, 0))
        self.told(None, mix_by, alike(4), (5, 2))
        self.told(None, mix_by, CUBE, (1, 0, 0, 0))
        self.told(None, mix_by, CUBE, (10 ** 29, 0, 0, -1))
        # Of its numbers the last one alone is not whole.
        self.told(None, mix_by, blocks(2, 3), (2, -2, 0))

    def test_every_small_tuple(self):
        for table in (TWO, alike(3), blocks(2, 2), blocks(2, 3), ring(4), pairs(4), unlike_bits(4)):
            found = all_weights(table)
            limit = 4 if len(found) < 4 else 1
            for numbers in itertools.product(range(-limit, limit + 1), repeat=len(found)):
                self.assertEqual(mix_by(table, numbers), self.tried(found, numbers))

    def tried(self, found, numbers):
        """The mix of small numbers that has these worths; greater ones cannot have such small worths."""
        limit = max(abs(number) for number in numbers)
        for mix in itertools.product(range(-limit, limit + 1), repeat=len(found)):
            if all(sum(x * y for x, y in zip(weights, mix)) == number for weights, number in zip(found, numbers)):
                return mix
        return None

    def test_no_numbers(self):
        for table in (ONE, TWO, CUBE, blocks(2, 3), unlike_bits(8)):
            for thing in no_wholes(len(kinds_of(table))):
                self.refused(NoNumbers, mix_by, table, thing)
        self.refused(NoNumbers, mix_by, TWO, (2, True))
        self.refused(NoNumbers, mix_by, TWO, [2, 0])

    def test_not_whole_is_ahead_of_no_numbers(self):
        for table in NOT_WHOLE:
            for thing in ANYTHING + [(1,) * len(all_weights(table)), (1,) * len(kinds_of(table))]:
                self.refused(NotWhole, mix_by, table, thing)

    def test_not_steady_and_no_table_are_ahead(self):
        for thing in ANYTHING:
            for table in UNSTEADY:
                self.refused(NotSteady, mix_by, table, thing)
            for table in NO_TABLES:
                self.refused(NoTable, mix_by, table, thing)


if __name__ == "__main__":
    unittest.main()
