"""Points 61, 62 and 63, and 2 to 4 as far as known tables reach."""

import itertools
import math
import unittest

from nearkinds.errors import NoKind, NoNumber
from nearkinds.known import (
    alike_table, blocks_table, pairs_table, ring_table, words_number, words_table, words_weight,
)
from nearkinds.mixes import number
from nearkinds.tables import is_steady, is_table
from nearkinds.weights import all_weights
from refusing import RefusalCase
from samples import alike, blocks, deep, no_whole_below, pairs, ring, words

NO_NUMBERS = [
    None, True, False, 0, -1, -8, -10 ** 29, 10 ** 29, "", "1", "x" * 100,
    [], [1], [[1]], (), (1,), {}, {1: 1}, deep(12),
]
# The words of one sign are one place, however many signs there are.
SMALL_WORDS = [(many, 1) for many in range(1, 9)] + [(1, signs) for signs in range(2, 9)] + [(2, 2), (3, 2)]
SMALL_BLOCKS = [(many, size) for many in range(1, 9) for size in range(1, 9) if many * size <= 8]


class KnownTablesTest(RefusalCase):
    def test_by_hand(self):
        self.told(((0,),), words_table, 1, 1)
        self.told(((0,),), words_table, 8, 1)
        self.told(((0, 1), (1, 0)), words_table, 1, 2)
        self.told(((0, 1, 1, 2), (1, 0, 2, 1), (1, 2, 0, 1), (2, 1, 1, 0)), words_table, 2, 2)
        self.told(((0,),), pairs_table, 2)
        self.told(((0, 1, 1), (1, 0, 1), (1, 1, 0)), pairs_table, 3)
        self.told((0, 1, 1, 1, 1, 2), lambda many: pairs_table(many)[0], 4)
        self.told((1, 0, 1, 1, 2, 1), lambda many: pairs_table(many)[1], 4)
        self.told(((0,),), ring_table, 1)
        self.told(((0, 1), (1, 0)), ring_table, 2)
        self.told(((0, 1, 2, 1), (1, 0, 1, 2), (2, 1, 0, 1), (1, 2, 1, 0)), ring_table, 4)
        self.told((0, 1, 2, 3, 4, 3, 2, 1), lambda many: ring_table(many)[0], 8)
        self.told(((0,),), alike_table, 1)
        self.told(((0, 1, 1), (1, 0, 1), (1, 1, 0)), alike_table, 3)
        self.told(((0,),), blocks_table, 1, 1)
        self.told(((0, 1), (1, 0)), blocks_table, 1, 2)
        self.told(((0, 1), (1, 0)), blocks_table, 2, 1)
        self.told(((0, 1, 2, 2), (1, 0, 2, 2), (2, 2, 0, 1), (2, 2, 1, 0)), blocks_table, 2, 2)
        self.told((2, 2, 2, 0, 1, 1), lambda many, size: blocks_table(many, size)[3], 2, 3)

    def test_at_every_number(self):
        for many, signs in SMALL_WORDS:
            self.told(words(many, signs), words_table, many, signs)
        for many in range(2, 5):
            self.told(pairs(many), pairs_table, many)
        for many in range(1, 9):
            self.told(ring(many), ring_table, many)
            self.told(alike(many), alike_table, many)
        for many, size in SMALL_BLOCKS:
            self.told(blocks(many, size), blocks_table, many, size)

    def test_all_are_steady_tables(self):
        tables = [words_table(many, signs) for many, signs in SMALL_WORDS]
        tables += [blocks_table(many, size) for many, size in SMALL_BLOCKS]
        tables += [pairs_table(many) for many in range(2, 5)]
        tables += [call(many) for call in (ring_table, alike_table) for many in range(1, 9)]
        for table in tables:
            self.assertIs(is_table(table), True)
            self.assertIs(is_steady(table), True)

    def test_no_number_of_one(self):
        for call, least, greatest in ((pairs_table, 2, 4), (ring_table, 1, 8), (alike_table, 1, 8)):
            for wrong in NO_NUMBERS + [least - 1, greatest + 1, greatest + 2]:
                self.refused(NoNumber, call, wrong)

    def test_no_number_of_two(self):
        for call, small in ((words_table, SMALL_WORDS), (blocks_table, SMALL_BLOCKS)):
            for many, other in itertools.product(range(-3, 12), repeat=2):
                if (many, other) not in small:
                    self.refused(NoNumber, call, many, other)
            for wrong in NO_NUMBERS + [9]:
                for right in (1, 2, 8):
                    self.refused(NoNumber, call, wrong, right)
                    self.refused(NoNumber, call, right, wrong)
                self.refused(NoNumber, call, wrong, wrong)


def counted(many, signs, one, other, third):
    """How many words there are, by going through all of them."""
    first = (0,) * many
    second = (1,) * third + (0,) * (many - third)
    return sum(
        sum(a != b for a, b in zip(word, first)) == one and sum(a != b for a, b in zip(word, second)) == other
        for word in itertools.product(range(signs), repeat=many)
    )


def times(one, other):
    """The product of two sums of powers, each a dict from the powers to their number."""
    result = {}
    for (a, b), first in one.items():
        for (c, e), second in other.items():
            result[a + c, b + e] = result.get((a + c, b + e), 0) + first * second
    return result


def taken(factor, many):
    result = {(0, 0): 1}
    for turn in range(many):
        result = times(result, factor)
    return result


def all_numbers(many, signs, third):
    """By powers: a place where the two words are alike, or unlike, gives one factor each."""
    same = {(0, 0): 1, (1, 1): signs - 1}
    unlike = {(0, 1): 1, (1, 0): 1, (1, 1): signs - 2}
    return times(taken(same, many - third), taken(unlike, third))


class WordsNumberTest(RefusalCase):
    def test_by_hand(self):
        self.told(1, words_number, 1, 2, 0, 0, 0)
        self.told(0, words_number, 1, 2, 0, 1, 0)
        self.told(1, words_number, 1, 2, 0, 1, 1)
        self.told(7, words_number, 1, 9, 1, 1, 1)
        self.told(8, words_number, 1, 9, 1, 1, 0)
        self.told(2, words_number, 2, 2, 1, 1, 2)
        self.told(6, words_number, 4, 2, 2, 2, 4)
        self.told(8 ** 12, words_number, 12, 9, 12, 12, 0)
        self.told(7 ** 12, words_number, 12, 9, 12, 12, 12)
        self.told(1, words_number, 12, 9, 0, 12, 12)
        self.told(924, words_number, 12, 2, 6, 6, 12)
        self.told(12 * 8, words_number, 12, 9, 1, 1, 0)

    def test_of_one_sign_alone(self):
        for many in range(1, 13):
            for one, other, third in itertools.product(range(many + 1), repeat=3):
                expected = int(one == other == third == 0)
                self.assertEqual(words_number(many, 1, one, other, third), expected)

    def test_against_small_tables(self):
        for many, signs in SMALL_WORDS:
            if signs > 1:
                table = words_table(many, signs)
                for one, other, third in itertools.product(range(many + 1), repeat=3):
                    self.told(number(table, one, other, third), words_number, many, signs, one, other, third)

    def test_against_all_words(self):
        for many, signs in [(1, 9), (2, 3), (2, 5), (3, 3), (3, 4), (4, 2), (4, 3), (5, 2), (6, 2)]:
            for one, other, third in itertools.product(range(many + 1), repeat=3):
                expected = counted(many, signs, one, other, third)
                self.told(expected, words_number, many, signs, one, other, third)

    def test_far_too_many_words(self):
        for many, signs in itertools.product((5, 7, 11, 12), (2, 3, 8, 9)):
            for third in range(many + 1):
                expected = all_numbers(many, signs, third)
                for one, other in itertools.product(range(many + 1), repeat=2):
                    told = words_number(many, signs, one, other, third)
                    self.assertEqual(told, expected.get((one, other), 0))

    def test_each_word_once(self):
        for many, signs in itertools.product((1, 6, 12), range(2, 10)):
            for third in range(many + 1):
                both = itertools.product(range(many + 1), repeat=2)
                told = [words_number(many, signs, one, other, third) for one, other in both]
                self.assertEqual(sum(told), signs ** many)

    def test_no_number(self):
        for wrong in NO_NUMBERS:
            self.refused(NoNumber, words_number, wrong, 2, 0, 0, 0)
            self.refused(NoNumber, words_number, 3, wrong, 0, 0, 0)
        self.refused(NoNumber, words_number, 13, 2, 0, 0, 0)
        self.refused(NoNumber, words_number, 3, 10, 0, 0, 0)
        self.refused(NoNumber, words_number, 0, 2, 0, 0, 0)
        self.refused(NoNumber, words_number, 3, 0, 0, 0, 0)

    def test_no_kind_of_each(self):
        for many, signs in ((1, 1), (1, 2), (3, 1), (3, 2), (12, 1), (12, 9)):
            for wrong in no_whole_below(many + 1):
                self.refused(NoKind, words_number, many, signs, wrong, 0, many)
                self.refused(NoKind, words_number, many, signs, many, wrong, 0)
                self.refused(NoKind, words_number, many, signs, 0, many, wrong)
                self.refused(NoKind, words_number, many, signs, wrong, wrong, wrong)

    def test_no_number_is_ahead_of_no_kind(self):
        for wrong in NO_NUMBERS + [13]:
            self.refused(NoNumber, words_number, wrong, 2, wrong, 0, 0)
            self.refused(NoNumber, words_number, 3, wrong, 0, wrong, 0)
            self.refused(NoNumber, words_number, 3, wrong, 0, 0, wrong)
            self.refused(NoNumber, words_number, wrong, wrong, 99, None, "")


class WordsWeightTest(RefusalCase):
    def test_by_hand(self):
        self.told(1, words_weight, 1, 2, 0, 0)
        self.told(1, words_weight, 1, 2, 1, 0)
        self.told(-1, words_weight, 1, 2, 1, 1)
        self.told(8, words_weight, 1, 9, 1, 0)
        self.told(-1, words_weight, 1, 9, 1, 1)
        self.told(96, words_weight, 12, 9, 1, 0)
        self.told(96 - 9 * 5, words_weight, 12, 9, 1, 5)
        self.told(8 ** 12, words_weight, 12, 9, 12, 0)
        self.told(1, words_weight, 12, 9, 12, 12)
        self.told(-8, words_weight, 12, 9, 12, 11)
        self.told(-12, words_weight, 12, 2, 11, 12)

    def test_against_small_tables(self):
        for many, signs in SMALL_WORDS:
            if signs > 1:
                found = all_weights(words_table(many, signs))
                for at, weights in enumerate(found):
                    for kind, weight in enumerate(weights):
                        self.told(weight, words_weight, many, signs, kind, at)

    def test_against_the_words_of_the_document(self):
        for many, signs in itertools.product(range(1, 13), range(2, 10)):
            for kind, at in itertools.product(range(many + 1), repeat=2):
                expected = sum(
                    (-1) ** s * (signs - 1) ** (kind - s) * math.comb(at, s) * math.comb(many - at, kind - s)
                    for s in range(kind + 1)
                )
                self.assertEqual(words_weight(many, signs, kind, at), expected)

    def test_by_powers(self):
        for many, signs in itertools.product((2, 6, 9, 12), (2, 5, 9)):
            for at in range(many + 1):
                grown = taken({(0, 0): 1, (1, 0): signs - 1}, many - at)
                expected = times(grown, taken({(0, 0): 1, (1, 0): -1}, at))
                for kind in range(many + 1):
                    self.assertEqual(words_weight(many, signs, kind, at), expected.get((kind, 0), 0))

    def test_they_are_weights_by_the_numbers_of_words(self):
        for many, signs in ((4, 3), (5, 9)):
            kinds = range(many + 1)
            for at, i, j in itertools.product(kinds, repeat=3):
                weights = [words_weight(many, signs, kind, at) for kind in kinds]
                summed = sum(words_number(many, signs, i, j, k) * weights[k] for k in kinds)
                self.assertEqual(weights[i] * weights[j], summed)

    def test_no_number(self):
        for wrong in NO_NUMBERS:
            self.refused(NoNumber, words_weight, wrong, 2, 0, 0)
            self.refused(NoNumber, words_weight, 3, wrong, 0, 0)
        self.refused(NoNumber, words_weight, 13, 2, 0, 0)
        self.refused(NoNumber, words_weight, 0, 2, 0, 0)
        self.refused(NoNumber, words_weight, 3, 10, 0, 0)
        self.refused(NoNumber, words_weight, 3, 1, 0, 0)

    def test_no_kind_of_each(self):
        for many, signs in ((1, 2), (3, 2), (12, 9)):
            for wrong in no_whole_below(many + 1):
                self.refused(NoKind, words_weight, many, signs, wrong, many)
                self.refused(NoKind, words_weight, many, signs, many, wrong)
                self.refused(NoKind, words_weight, many, signs, wrong, wrong)

    def test_no_number_is_ahead_of_no_kind(self):
        for wrong in NO_NUMBERS + [13]:
            self.refused(NoNumber, words_weight, wrong, 2, wrong, 0)
            self.refused(NoNumber, words_weight, 3, wrong, 0, wrong)
            self.refused(NoNumber, words_weight, 3, 1, wrong, 99)
            self.refused(NoNumber, words_weight, wrong, wrong, 99, None)


if __name__ == "__main__":
    unittest.main()
