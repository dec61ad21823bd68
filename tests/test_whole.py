"""The interface, and points 2, 3 and 4 over the whole program."""

import copy
import inspect
import itertools
import unittest

from nearkinds import desk, forms, joins, known, lots, mixes, ones, tables, texts, turned, weights
from nearkinds.errors import (
    NoClosed, NoDeed, NoKind, NoKinds, NoLine, NoLot, NoMix, NoNumber, NoNumbers, NoPaper, NoParting, NoPlace, NoTable,
    NoText, NotSteady, NotWhole, NoWeights, TooMany,
)
from refusing import RefusalCase
from samples import (
    CUBE, PATH, PRISM, STEADY, TWO, alike, deep, kinds_of, made, plain_closed, reordered, ring, subsets, unlike_bits,
)

# Each function, its arguments' names, right ones, and for each how it is refused; None where anything is answered.
CALLS = [
    (tables.is_table, "thing", (CUBE,), (None,)),
    (tables.kinds_many, "table", (CUBE,), (NoTable,)),
    (tables.near_of, "table place kind", (CUBE, 7, 3), (NoTable, NoPlace, NoKind)),
    (tables.shares_of, "table one other", (CUBE, 1, 6), (NoTable, NoPlace, NoPlace)),
    (tables.is_steady, "table", (CUBE,), (NoTable,)),
    (tables.is_break, "table thing", (PATH, (0, 0, 1, 1)), (NoTable, None)),
    (tables.first_break, "table", (PATH,), (NoTable,)),
    (mixes.number, "table i j k", (CUBE, 1, 1, 2), (NoTable, NoKind, NoKind, NoKind)),
    (mixes.sizes, "table", (CUBE,), (NoTable,)),
    (mixes.is_mix, "table thing", (CUBE, (1, 2, 3, 4)), (NoTable, None)),
    (mixes.square, "table mix", (PATH, (1, 2, 3)), (NoTable, NoMix)),
    (mixes.product, "table one other", (CUBE, (1, 2, 3, 4), (4, 3, 2, 1)), (NoTable, NoMix, NoMix)),
    (mixes.added, "table one other", (CUBE, (1, 2, 3, 4), (4, 3, 2, 1)), (NoTable, NoMix, NoMix)),
    (mixes.power, "table mix times", (CUBE, (1, 2, 3, 4), 8), (NoTable, NoMix, NoNumber)),
    (weights.are_weights, "table thing", (CUBE, (1, 3, 3, 1)), (NoTable, None)),
    (weights.all_weights, "table", (CUBE,), (NoTable,)),
    (weights.is_whole_table, "table", (CUBE,), (NoTable,)),
    (weights.how_often, "table weights", (CUBE, (1, 1, -1, -1)), (NoTable, NoWeights)),
    (weights.worth_by, "table weights mix", (CUBE, (1, 1, -1, -1), (1, 2, 3, 4)), (NoTable, NoWeights, NoMix)),
    (weights.mix_by, "table numbers", (CUBE, (8, 0, 0, 0)), (NoTable, NoNumbers)),
    (turned.turned_weights, "table", (CUBE,), (NoTable,)),
    (turned.turned_number, "table one other third", (CUBE, 1, 1, 2), (NoTable, NoNumber, NoNumber, NoNumber)),
    (turned.self_order, "table", (CUBE,), (NoTable,)),
    (lots.spread, "table lot", (PATH, (0, 2)), (NoTable, NoLot)),
    (lots.is_free, "table kinds lot", (PATH, (2,), (0, 2)), (NoTable, NoKinds, NoLot)),
    (lots.most, "table kinds", (PATH, (2,)), (NoTable, NoKinds)),
    (lots.greatest, "table kinds", (PATH, (1,)), (NoTable, NoKinds)),
    (lots.is_paper, "table kinds thing", (CUBE, (3,), ((1, 0, 0, -1),)), (NoTable, NoKinds, None)),
    (lots.shows, "table kinds paper", (CUBE, (3,), ((1, 0, 0, -1),)), (NoTable, NoKinds, NoPaper)),
    (lots.best_mix, "table kinds", (CUBE, (3,)), (NoTable, NoKinds)),
    (known.words_table, "many signs", (3, 2), (NoNumber, NoNumber)),
    (known.pairs_table, "many", (4,), (NoNumber,)),
    (known.ring_table, "many", (8,), (NoNumber,)),
    (known.alike_table, "many", (8,), (NoNumber,)),
    (known.blocks_table, "many size", (2, 4), (NoNumber, NoNumber)),
    (known.words_number, "many signs one other third", (12, 9, 3, 4, 5), (NoNumber, NoNumber, NoKind, NoKind, NoKind)),
    (known.words_weight, "many signs kind number", (12, 9, 3, 4), (NoNumber, NoNumber, NoKind, NoKind)),
    (ones.is_parting, "table thing", (CUBE, [(1, 3), (2,)]), (NoTable, None)),
    (ones.made_one, "table parting", (CUBE, [(1, 3), (2,)]), (NoTable, NoParting)),
    (ones.steady_partings, "table", (CUBE,), (NoTable,)),
    (ones.closed, "table", (CUBE,), (NoTable,)),
    (ones.together, "table kinds", (CUBE, (0, 3)), (NoTable, NoClosed)),
    (joins.put_beside, "one other", (TWO, PATH), (NoTable, NoTable)),
    (joins.put_within, "one other", (PATH, TWO), (NoTable, NoTable)),
    (joins.part_of, "table kinds", (CUBE, (0, 2)), (NoTable, NoClosed)),
    (joins.rest_of, "table kinds", (CUBE, (0, 3)), (NoTable, NoClosed)),
    (forms.form_of, "table", (PRISM,), (NoTable,)),
    (forms.first_order, "one other", (PATH, reordered(PATH, (1, 0, 2))), (NoTable, NoTable)),
    (forms.all_steady, "many", (6,), (NoNumber,)),
    (texts.table_text, "table", (CUBE,), (NoTable,)),
    (texts.read_table, "text", ("011/101/110",), (NoText,)),
    (desk.Desk().say, "line", ("table",), (NoLine,)),
]

# None of these is right at any place of the calls above.
ANYTHING = [
    None, True, False, 10 ** 29, -10 ** 29, 10 ** 30 - 1, -1, 99, "", "x" * 100, "(0,)", [], [0], [1], [(0,)], [[]],
    [()], [0, 1, 2], {}, {0: 0}, {"": []}, {(0,): [0]}, (None,), (0, None), (True,), (0, True), ("0",), ([0],), ({},),
    (10 ** 29,), (-1,), (99, 100), ((0,), (1,)), ((0, True), (True, 0)), [[0, 1], [1, 0]], ([0, 1], [1, 0]),
    [(0, 1), (1, 0)], ((False, 1), (1, False)), {0: (0, 1), 1: (1, 0)}, deep(12), (deep(11),), [deep(11)],
    {0: deep(11)}, 1.0, b"0",
]
STEADY_CALLS = (
    mixes.number, mixes.sizes, mixes.product, mixes.added, mixes.power, weights.are_weights, weights.all_weights,
    weights.is_whole_table, weights.how_often, weights.worth_by, weights.mix_by, turned.turned_weights,
    turned.turned_number, turned.self_order, lots.is_paper, lots.shows, lots.best_mix, ones.closed, ones.together,
    joins.part_of, joins.rest_of,
)
WHOLE_CALLS = (weights.mix_by, turned.turned_weights, turned.turned_number, turned.self_order)


def lists_within(thing):
    """All lists that are told, the thing itself among them if it is one."""
    found = [thing] if isinstance(thing, list) else []
    if isinstance(thing, (list, tuple)):
        for part in thing:
            found += lists_within(part)
    return found


def exchanged(handed, at, thing):
    return handed[:at] + (thing,) + handed[at + 1:]


class InterfaceTest(unittest.TestCase):
    def test_names_and_arguments(self):
        for call, names, right, refusals in CALLS:
            self.assertEqual(" ".join(inspect.signature(call).parameters), names, call.__name__)
            self.assertEqual(len(right), len(refusals), call.__name__)

    def test_every_function_is_looked_at(self):
        self.assertEqual(len({call.__name__ for call, names, right, refusals in CALLS}), 52)
        self.assertEqual(str(inspect.signature(desk.Desk)), "()")


class AnythingTest(RefusalCase):
    def test_right_calls_are_told(self):
        for call, names, right, refusals in CALLS:
            self.told(call(*right), call, *right)

    def test_each_thing_at_each_place(self):
        for call, names, right, refusals in CALLS:
            for at, refusal in enumerate(refusals):
                for thing in ANYTHING:
                    handed = exchanged(right, at, thing)
                    if refusal is None:
                        self.told(False, call, *handed)
                    else:
                        self.refused(refusal, call, *handed)

    def test_what_stands_further_to_the_left_is_looked_at_first(self):
        for call, names, right, refusals in CALLS:
            for first, second in itertools.combinations(range(len(right)), 2):
                for thing in ANYTHING:
                    handed = exchanged(exchanged(right, first, thing), second, ANYTHING[3])
                    self.refused(refusals[first], call, *handed)

    def test_rows_in_lists_and_truths_for_numbers(self):
        for call, names, right, refusals in CALLS:
            for at, refusal in enumerate(refusals):
                if refusal is NoTable:
                    table = right[at]
                    for thing in (
                        list(table), tuple(map(list, table)), [list(row) for row in table], dict(enumerate(table)),
                        tuple(tuple(True if kind == 1 else kind for kind in row) for row in table), table[:-1],
                        tuple(tuple(False if kind == 0 else kind for kind in row) for row in table), alike(9), ring(9),
                        table + table[:1], tuple(row[:-1] for row in table), (table,), str(table),
                    ):
                        self.refused(NoTable, call, *exchanged(right, at, thing))

    def test_not_steady_then_not_whole(self):
        for call in STEADY_CALLS:
            right = next(right for other, names, right, refusals in CALLS if other == call)
            for thing in ANYTHING:
                handed = (PRISM,) + (thing,) * (len(right) - 1)
                self.refused(NotSteady, call, *handed)
                if call in WHOLE_CALLS:
                    self.refused(NotWhole, call, *exchanged(handed, 0, ring(5)))

    def test_too_many(self):
        for call, handed in [
            (lots.best_mix, (ring(8), None)), (ones.steady_partings, (unlike_bits(8),)), (forms.form_of, (CUBE,)),
            (forms.first_order, (CUBE, TWO)), (forms.first_order, (TWO, ring(7))), (joins.put_beside, (PATH, PATH)),
            (joins.put_within, (TWO, ring(5))),
        ]:
            self.refused(TooMany, call, *handed)


class OwnTest(RefusalCase):
    def test_told_lists_are_the_askers_own(self):
        for call, names, right, refusals in CALLS:
            handed = lists_within(right)
            one, other = call(*right), call(*right)
            found = lists_within(one) + lists_within(other) + handed
            self.assertEqual(len({id(part) for part in found}), len(found), call.__name__)
            expected = copy.deepcopy(other)
            for part in lists_within(one):
                part.clear()
                part.append("spoilt")
            self.assertEqual(other, expected, call.__name__)
            self.told(expected, call, *right)

    def test_what_is_handed_in_may_be_changed_later(self):
        parting = [(1, 3), (2,)]
        told = ones.made_one(CUBE, parting)
        parting[:] = [(1, 2, 3)]
        self.assertEqual(told, ones.made_one(CUBE, [(1, 3), (2,)]))

    def test_calls_in_any_order_tell_the_same(self):
        first = [call(*right) for call, names, right, refusals in CALLS]
        again = [call(*right) for call, names, right, refusals in reversed(CALLS)]
        self.assertEqual(repr(first), repr(again[::-1]))


class PromiseTest(RefusalCase):
    def put_together(self):
        for one, other in itertools.product(STEADY, repeat=2):
            if len(one) * len(other) <= 8 and len(one) > 1 and len(other) > 1:
                yield joins.put_beside(one, other)
                yield joins.put_within(one, other)

    def test_steady_or_a_break(self):
        for table in list(self.put_together()) + [joins.put_beside(TWO, PATH), joins.put_within(PATH, TWO)]:
            found = tables.first_break(table)
            self.assertIs(tables.is_steady(table), found is None)
            self.assertIs(tables.is_break(table, found), found is not None)

    def test_mixes_multiply_as_their_squares(self):
        for table in self.put_together():
            one = tuple(range(-2, len(kinds_of(table)) - 2))
            other = tuple(7 - 3 * kind for kind in kinds_of(table))
            first, second = mixes.square(table, one), mixes.square(table, other)
            places = range(len(table))
            expected = made(len(table), lambda a, b: sum(first[a][c] * second[c][b] for c in places))
            self.assertEqual(mixes.square(table, mixes.product(table, one, other)), expected)

    def test_what_papers_show_holds(self):
        looked_at = 0
        for table in list(self.put_together())[::3]:
            if len(kinds_of(table)) > 4:
                continue
            for kinds in subsets(kinds_of(table)[1:])[1:]:
                best = lots.best_mix(table, kinds)
                if best is not None:
                    self.assertLessEqual(lots.most(table, kinds), lots.shows(table, kinds, (best,)))
                    looked_at += 1
        self.assertGreater(looked_at, 30)

    def test_kinds_made_one_parts_and_rests_are_steady(self):
        for table in self.put_together():
            for kinds in plain_closed(table):
                for told in (joins.part_of(table, kinds), joins.rest_of(table, kinds)):
                    self.assertIs(tables.is_steady(told), True)
            if len(kinds_of(table)) <= 6:
                for parting in ones.steady_partings(table):
                    self.assertIs(tables.is_steady(ones.made_one(table, parting)), True)

    def test_weights_side_by_side_are_products(self):
        for one, other in ((TWO, ring(4)), (ring(4), TWO), (alike(3), TWO), (TWO, unlike_bits(4)), (TWO, TWO)):
            pairs = itertools.product(weights.all_weights(one), weights.all_weights(other))
            products = [tuple(left * right for left in first for right in second) for first, second in pairs]
            self.assertEqual(weights.all_weights(joins.put_beside(one, other)), sorted(products, reverse=True))

    def test_all_steady_ones_of_few_places(self):
        """What is promised of steady tables holds of each of them."""
        for many in range(1, 7):
            for table in forms.all_steady(many):
                self.assertEqual(weights.all_weights(table)[0], tuple(mixes.sizes(table)))
                self.assertEqual(texts.read_table(texts.table_text(table)), table)
                self.assertIn((0,), ones.closed(table))
                for kind, other in itertools.permutations(kinds_of(table)[1:], 2):
                    spot = desk.Desk()
                    spot.say("table " + texts.table_text(table))
                    spot.say(f"kinds {kind} {other}")
                    self.assertEqual(spot.say("steady"), "yes")
                    self.assertEqual(forms.form_of(texts.read_table(spot.say("table"))), table)

    def test_a_desk_with_no_deed(self):
        self.refused(NoDeed, desk.Desk().say, "back")


if __name__ == "__main__":
    unittest.main()
