"""Point 102, and 2 to 4 as far as desks reach."""

import itertools
import unittest

from nearkinds.desk import Desk
from nearkinds.errors import NearError, NoDeed, NoKind, NoLine, NoPlace, NoText
from refusing import RefusalCase
from samples import (
    CUBE, ONE, PATH, STEADY, TWO, UNSTEADY, alike, all_tables, deep, greater_one, kinds_of, plain_breaks, plain_shares,
    renamed, reordered, ring, subsets, unlike_bits, written,
)

FIGURES = "0123456789"
TABLES = STEADY + UNSTEADY + list(all_tables(3)) + list(all_tables(4))[::9] + [greater_one(5), greater_one(7)]
QUESTIONS = ["table", "steady", "break", "shares 0 0", "shares 1 2", "shares 2 1", "most 1", "most 1 2", "most 2"]


def desk_with(table):
    """A desk with one deed that stands: the table."""
    desk = Desk()
    assert desk.say("table " + written(table)) == "ok"
    return desk


def plain_one(table, k, l):
    """By the words of point 102."""
    lesser, greater = min(k, l), max(k, l)
    names = [lesser if kind == greater else kind - 1 if kind > greater else kind for kind in kinds_of(table)]
    return renamed(table, names)


def plain_kinds(table, k, l):
    return renamed(table, [l if kind == k else k if kind == l else kind for kind in kinds_of(table)])


def plain_places(table, a, b):
    return reordered(table, [b if place == a else a if place == b else place for place in range(len(table))])


def plain_most(table, kinds):
    return max(
        len(lot)
        for lot in subsets(range(len(table)))
        if all(table[a][b] in kinds for a, b in itertools.combinations(lot, 2))
    )


def plain_answer(table, line):
    """The answer to a question that is right, or to a deed the table that it makes; a class where it is refused."""
    word, *rest = line.split(" ")
    if word == "table" and rest:
        return tuple(tuple(int(sign) for sign in row) for row in rest[0].split("/"))
    figures = [int(sign) for sign in rest]
    kinds, places = kinds_of(table), range(len(table))
    if word in ("one", "kinds"):
        if figures[0] == figures[1] or not set(figures) <= set(kinds[1:]):
            return NoKind
        return plain_one(table, *figures) if word == "one" else plain_kinds(table, *figures)
    if word == "places":
        if figures[0] == figures[1] or not set(figures) <= set(places):
            return NoPlace
        return plain_places(table, *figures)
    if word == "table":
        return written(table)
    if word == "steady":
        return "no" if plain_breaks(table) else "yes"
    if word == "break":
        return " ".join(map(str, (plain_breaks(table) or [["none"]])[0]))
    if word == "shares":
        return written(plain_shares(table, *figures)) if set(figures) <= set(places) else NoPlace
    if figures != sorted(set(figures)) or not set(figures) <= set(kinds[1:]):
        return NoKind
    return str(plain_most(table, figures))


def pick(seed, many):
    """Numbers that jump about, the same ones each time."""
    return (seed * 7919 + seed * seed * 104729 + 12345) % 1000003 % many


def some_line(seed):
    """A line of some sort; its figures may be refused, it itself is right."""
    word = LINE_WORDS[pick(seed, len(LINE_WORDS))]
    if word in ("one", "kinds", "places", "shares"):
        return f"{word} {pick(seed + 1, 7)} {pick(seed + 2, 6)}"
    if word == "most":
        return "most " + " ".join(str(pick(seed + at, 5)) for at in range(1 + pick(seed + 3, 2)))
    if word == "text":
        return "table " + written(TABLES[pick(seed + 3, len(TABLES))])
    return word


LINE_WORDS = "table one kinds places places kinds one shares most most steady break back back text".split()

WRONG_LINES = [
    # Other words.
    "", " ", "  ", "\n", "ok", "yes", "no", "none", "x", "x" * 100, "Table", "TABLE", "tables", "tabl", "tableau",
    "Steady", "steadyy", "breaks", "Back", "share", "shares", "kind", "place", "two", "mos", "undo", "0", "1 2",
    "0 1", "/", "011/101/110", "kinds_many", "__init__", "say", "None", "onee 1 2", "form", "forms 0", "one\n1 2",
    "table\n0", "table\t0", "table/0", "table0", "table=0", "tell", "\ud800", "oNe 1 2", "ONE 1 2",
    # Words lacking or more.
    "one", "one 1", "one 1 2 3", "kinds", "kinds 1", "kinds 1 2 3", "places", "places 0", "places 0 1 2", "back 1",
    "back 0", "back back", "steady 0", "steady yes", "break 0", "break 0 1", "shares 0", "shares 0 1 2", "most",
    "steady steady", "one one 1", "one 1 2 one", "kinds 1 2 ok", "1 one 2", "one 1 two",
    # Blanks.
    " one 1 2", "one  1 2", "one 1  2", "one 1 2 ", "one 1 ", "one ", "one  ", "one  1", " kinds 1 2", "kinds 1  2",
    "kinds 1 2 ", " places 0 1", "places  0 1", "places 0 1 ", "places 0  1", " back", "back ", " table", "  table",
    " table 0", " steady", "steady ", "steady  ", " break", "break ", " shares 0 1", "shares  0 1", "shares 0 1 ",
    "shares 0 ", " most 1", "most ", "most  ", "most  1", "most 1 ", "most 1  2", "most 1 2 ", "one\t1\t2",
    "one 1\t2", "one 1 2\n", "one 1 2\r", "\tone 1 2", "most 1\n", "steady\n", "back\n", "table\n", "table\t",
    "one\u00a01\u00a02", "one 1\u00a02", "one\u20031 2", "most 1\u00a02",
    # Figures of two signs, and what is none.
    "one 10 1", "one 1 10", "one 01 2", "one 1 02", "one 12", "one -1 1", "one 1 -1", "one +1 2", "one 1. 2",
    "one a b", "one 1 b", "one 1 /", "one K L", "kinds 1 22", "kinds 11 2", "kinds K L", "kinds 1 1_", "places 00 1",
    "places 0 01", "places 10 0", "places A B", "places 0 -1", "shares 00 1", "shares 0 10", "shares A B",
    "shares 0 /", "shares 0 1/", "most 10", "most 01", "most 12", "most 1,2", "most 1 02", "most 1 2 33", "most K",
    "most K ..", "most 1 ..", "most ..", "most -1", "most 1 x", "most x 1", "one 9 x", "places 9 x", "shares 9 99",
    "most 9 99", "most 2 1 x", "one 1 1 1",
    # Figures elsewhere.
    "one \u0661 2", "one 1 \u0662", "one \uff11 \uff12", "one \u00b9 2", "kinds 1 \u00b2", "places \u0660 1",
    "places 0 \uff11", "shares \u0966 1", "shares 0 \u2460", "most \u0661", "most 1 \uff12", "most \u00bd",
]

NO_LINES = [
    None, True, False, 0, 1, -1, 10 ** 29, b"table", b"back", b"", [], ["table"], ["one", 1, 2], ("table",),
    ("one", "1", "2"), (), {}, {"table": "0"}, {"back": None}, ONE, [[0]], deep(12),
]


class DeedTest(RefusalCase):
    def test_the_first_table(self):
        self.told("0", Desk().say, "table")
        self.told("yes", Desk().say, "steady")
        self.told("none", Desk().say, "break")
        self.told("1", Desk().say, "shares 0 0")
        for line in ("most 1", "most 0", "one 1 2", "kinds 1 2"):
            self.refused(NoKind, Desk().say, line)
        for line in ("shares 0 1", "shares 1 0", "places 0 1", "places 0 0"):
            self.refused(NoPlace, Desk().say, line)
        self.refused(NoDeed, Desk().say, "back")

    def test_a_table_by_its_text(self):
        for table in TABLES:
            desk = Desk()
            self.assertEqual(desk.say("table " + written(table)), "ok")
            self.told(written(table), desk.say, "table")

    def test_deeds_by_hand(self):
        desk = Desk()
        for line, table in [
            ("table 0123/1023/2203/3330", "0123/1023/2203/3330"),
            ("kinds 1 3", "0321/3021/2201/1110"),
            ("kinds 2 1", "0312/3012/1102/2220"),
            ("places 0 3", "0222/2013/2101/2310"),
            ("one 3 1", "0222/2011/2101/2110"),
            ("places 2 1", "0222/2011/2101/2110"),
            ("one 1 2", "0111/1011/1101/1110"),
            ("table 01/10", "01/10"),
            ("places 1 0", "01/10"),
            ("table 01234/10234/22034/33304/44440", "01234/10234/22034/33304/44440"),
            ("one 2 3", "01223/10223/22023/22203/33330"),
            ("places 0 4", "03333/30221/32022/32202/31220"),
        ]:
            self.assertEqual(desk.say(line), "ok")
            self.assertEqual(desk.say("table"), table)
        self.assertEqual(desk.say("back"), "ok")
        self.assertEqual(desk.say("table"), "01223/10223/22023/22203/33330")

    def deeds_of(self, word, table):
        for one, other in itertools.product(range(10), repeat=2):
            line = f"{word} {one} {other}"
            desk = desk_with(table)
            expected = plain_answer(table, line)
            if isinstance(expected, tuple):
                self.assertEqual(desk.say(line), "ok")
                self.assertEqual(desk.say("table"), written(expected))
                self.assertEqual(desk.say("back"), "ok")
            else:
                self.refused(expected, desk.say, line)
            self.assertEqual(desk.say("table"), written(table))
            self.assertEqual(desk.say("back"), "ok")
            self.refused(NoDeed, desk.say, "back")

    def test_each_deed_at_each_figure(self):
        for table in (ONE, TWO, PATH, alike(8), ring(5), ring(8), CUBE, greater_one(4), greater_one(8), unlike_bits(8)):
            for word in ("one", "kinds", "places"):
                self.deeds_of(word, table)

    def test_bounds(self):
        desk = desk_with(greater_one(8))
        for figures in ("0 1", "1 0", "7 8", "8 7", "9 1", "1 9", "3 3", "0 0", "8 8", "9 9"):
            self.refused(NoKind, desk.say, "one " + figures)
            self.refused(NoKind, desk.say, "kinds " + figures)
        for line in ("places 0 8", "places 8 0", "places 9 0", "places 0 9", "places 3 3", "places 0 0", "places 8 8"):
            self.refused(NoPlace, desk.say, line)
        self.assertEqual(desk.say("table"), written(greater_one(8)))
        for line in ("one 1 7", "kinds 6 1", "places 0 7", "places 7 0", "one 6 5"):
            self.assertEqual(desk.say(line), "ok")

    def test_no_text(self):
        for table in (ONE, PATH, CUBE):
            desk = desk_with(table)
            for text in (
                "", " ", " 0", "0 ", "  ", "0 0", "01/10 ", " 01/10", "01//10", "/01/10", "01/10/", "00", "1", "x",
                "01/1", "022/202/220", "table", "table 0", "0\n", "0\uff11/\uff110", "8", "x" * 94, "0" * 94,
            ):
                self.refused(NoText, desk.say, "table " + text)
            self.told(written(table), desk.say, "table")
            self.assertEqual(desk.say("back"), "ok")
            self.refused(NoDeed, desk.say, "back")


class BackTest(RefusalCase):
    def test_deed_by_deed(self):
        desk = Desk()
        stood = ["0"]
        for line in (
            "table 012/101/210", "kinds 1 2", "table 012/101/210", "table 012/101/210", "places 0 1", "one 1 2",
            "places 0 2", "table 0", "table 0123/1023/2203/3330", "one 1 3",
        ):
            self.assertEqual(desk.say(line), "ok")
            stood.append(desk.say("table"))
        while len(stood) > 1:
            self.assertEqual(desk.say("table"), stood.pop())
            self.assertEqual(desk.say("back"), "ok")
        self.assertEqual(desk.say("table"), "0")
        for turn in range(3):
            self.refused(NoDeed, desk.say, "back")
        self.assertEqual(desk.say("table"), "0")

    def test_back_is_no_deed_itself(self):
        desk = Desk()
        for line in ("table 01/10", "table 011/101/110", "back", "table 012/101/210", "back", "back"):
            self.assertEqual(desk.say(line), "ok")
        self.assertEqual(desk.say("table"), "0")
        self.refused(NoDeed, desk.say, "back")
        self.assertEqual(desk.say("table 01/10"), "ok")
        self.assertEqual(desk.say("table"), "01/10")

    def test_a_deed_that_changes_nothing_is_one(self):
        desk = desk_with(TWO)
        self.assertEqual(desk.say("places 0 1"), "ok")
        self.assertEqual(desk.say("table 01/10"), "ok")
        for turn in range(3):
            self.assertEqual(desk.say("back"), "ok")
        self.refused(NoDeed, desk.say, "back")

    def test_questions_and_what_is_refused_are_no_deeds(self):
        desk = desk_with(PATH)
        for line in QUESTIONS:
            desk.say(line)
        for refusal, line in [
            (NoText, "table "), (NoText, "table 00"), (NoKind, "one 1 1"), (NoKind, "kinds 1 3"), (NoKind, "most 3"),
            (NoPlace, "places 0 3"), (NoPlace, "shares 0 3"), (NoLine, "table\n"), (NoLine, None), (NoLine, ""),
            (NoLine, "one 1"),
        ]:
            self.refused(refusal, desk.say, line)
            self.assertEqual(desk.say("table"), "012/101/210")
        self.assertEqual(desk.say("back"), "ok")
        self.assertEqual(desk.say("table"), "0")
        self.refused(NoDeed, desk.say, "back")

    def test_many_deeds_in_a_row(self):
        desk = Desk()
        self.assertEqual(desk.say("table " + written(greater_one(8))), "ok")
        for turn in range(20000):
            self.assertEqual(desk.say(f"places {turn % 8} {(turn + 1) % 8}"), "ok")
        self.assertEqual(desk.say("steady"), "no")
        for turn in range(20000):
            self.assertEqual(desk.say("back"), "ok")
        self.assertEqual(desk.say("table"), written(greater_one(8)))
        self.assertEqual(desk.say("back"), "ok")
        self.refused(NoDeed, desk.say, "back")


class QuestionTest(RefusalCase):
    def test_by_hand(self):
        desk = desk_with(PATH)
        self.told("012/101/210", desk.say, "table")
        self.told("no", desk.say, "steady")
        self.told("0 0 1 1", desk.say, "break")
        self.told("100/010/001", desk.say, "shares 0 0")
        self.told("010/100/010", desk.say, "shares 0 1")
        self.told("001/010/100", desk.say, "shares 0 2")
        self.told("2", desk.say, "most 1")
        self.told("2", desk.say, "most 2")
        self.told("3", desk.say, "most 1 2")
        desk = desk_with(alike(8))
        self.told("yes", desk.say, "steady")
        self.told("none", desk.say, "break")
        self.told("10/07", desk.say, "shares 7 7")
        self.told("01/16", desk.say, "shares 7 0")
        self.told("8", desk.say, "most 1")
        desk = desk_with(unlike_bits(8))
        self.told("8", desk.say, "most 1 2 3 4 5 6 7")
        self.told("4", desk.say, "most 1 6 7")
        self.told("2", desk.say, "most 7")

    def test_each_question_of_many_tables(self):
        for table in TABLES:
            desk = desk_with(table)
            lines = ["table", "steady", "break"]
            lines += [f"most {kind}" for kind in range(10)]
            lines += ["most " + " ".join(map(str, kinds)) for kinds in subsets(kinds_of(table)[1:])[1:20]]
            lines += [f"shares {one} {other}" for one, other in itertools.product(FIGURES, repeat=2)][::len(table)]
            for line in lines:
                expected = plain_answer(table, line)
                if isinstance(expected, str):
                    self.told(expected, desk.say, line)
                else:
                    self.refused(expected, desk.say, line)

    def test_shares_at_each_bound(self):
        for many in range(1, 9):
            desk = desk_with(ring(many))
            for one, other in itertools.product(range(10), repeat=2):
                if max(one, other) < many:
                    self.told(written(plain_shares(ring(many), one, other)), desk.say, f"shares {one} {other}")
                else:
                    self.refused(NoPlace, desk.say, f"shares {one} {other}")

    def test_kinds_for_most(self):
        desk = desk_with(CUBE)
        for figures in (
            "0", "4", "9", "1 1", "2 1", "0 1", "1 0", "1 4", "1 2 3 4", "3 2 1", "1 2 2", "1 3 2", "9 1", "1 2 3 0",
            "1 2 3 4 5 6 7 8 9", "1" + " 1" * 40,
        ):
            self.refused(NoKind, desk.say, "most " + figures)
        for kinds in subsets((1, 2, 3))[1:]:
            self.told(str(plain_most(CUBE, kinds)), desk.say, "most " + " ".join(map(str, kinds)))

    def test_asked_again(self):
        desk = desk_with(UNSTEADY[2])
        first = [desk.say(line) for line in QUESTIONS]
        for turn in range(3):
            self.assertEqual([desk.say(line) for line in reversed(QUESTIONS)], first[::-1])


class LineTest(RefusalCase):
    def test_no_line(self):
        for table in (ONE, PATH, greater_one(8)):
            desk = desk_with(table)
            for line in WRONG_LINES + NO_LINES:
                self.refused(NoLine, desk.say, line)
            self.assertEqual(desk.say("table"), written(table))
            self.assertEqual(desk.say("back"), "ok")
            self.refused(NoDeed, desk.say, "back")

    def test_no_line_at_first(self):
        for line in WRONG_LINES + NO_LINES:
            desk = Desk()
            self.refused(NoLine, desk.say, line)
            self.assertEqual(desk.say("table"), "0")
            self.refused(NoDeed, desk.say, "back")

    def test_single_figures_alone(self):
        desk = desk_with(greater_one(8))
        for sign in [chr(at) for at in range(0x7f)] + ["\u0663", "\uff13", "\u00b3", "\u2462", "\U0001d7d1"]:
            if sign not in FIGURES:
                for start in ("one 1 ", "kinds 1 ", "places 0 ", "shares 0 ", "most ", "most 1 "):
                    self.refused(NoLine, desk.say, start + sign)


class DesksTest(RefusalCase):
    def test_two_desks_know_nothing_of_one_another(self):
        one, other = Desk(), Desk()
        self.assertEqual(one.say("table 012/101/210"), "ok")
        self.assertEqual(other.say("table"), "0")
        self.refused(NoDeed, other.say, "back")
        self.assertEqual(other.say("table 01/10"), "ok")
        self.assertEqual(one.say("one 1 2"), "ok")
        self.assertEqual(other.say("table"), "01/10")
        self.assertEqual(other.say("back"), "ok")
        self.assertEqual(one.say("table"), "011/101/110")
        self.assertEqual(one.say("back"), "ok")
        self.assertEqual(one.say("table"), "012/101/210")
        self.assertEqual(Desk().say("table"), "0")

    def test_a_desk_hangs_on_the_deeds_that_stand_alone(self):
        """Lines of all sorts, each answer held against a table made anew of the deeds that stand."""
        desk, deeds, outcomes = Desk(), [], []
        for turn in range(1500):
            line = some_line(turn)
            table = ONE
            for deed in deeds:
                table = plain_answer(table, deed)
            expected = plain_answer(table, line) if line != "back" else deeds[-1:] or NoDeed
            if isinstance(expected, tuple):
                self.assertEqual(desk.say(line), "ok")
                deeds.append(line)
            elif isinstance(expected, list):
                self.assertEqual(desk.say(line), "ok")
                deeds.pop()
            elif isinstance(expected, str):
                self.told(expected, desk.say, line)
            else:
                self.refused(expected, desk.say, line)
            outcomes.append(expected if isinstance(expected, type) else type(expected))
            while len(deeds) > 12 and turn % 3:
                self.assertEqual(desk.say("back"), "ok")
                deeds.pop()
        for kind in (tuple, list, str, NoKind, NoPlace):
            self.assertGreater(outcomes.count(kind), 50)

    def test_other_ways_to_the_same_deeds(self):
        plain = Desk()
        roundabout = Desk()
        for line in ("table 0123/1023/2203/3330", "kinds 1 3", "places 0 2"):
            plain.say(line)
        for line in (
            "table 01/10", "places 0 1", "back", "back", "table 0123/1023/2203/3330", "one 1 2", "back", "kinds 1 3",
            "table 0", "back", "places 0 2", "places 0 2", "back",
        ):
            self.assertEqual(roundabout.say(line), "ok")
        for turn in range(4):
            self.assertEqual([self.answer(plain, line) for line in QUESTIONS],
                             [self.answer(roundabout, line) for line in QUESTIONS])
            self.assertEqual(self.answer(plain, "back"), self.answer(roundabout, "back"))

    def answer(self, desk, line):
        try:
            return desk.say(line)
        except NearError as error:
            return type(error)


if __name__ == "__main__":
    unittest.main()
