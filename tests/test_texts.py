"""Point 101, and 2 to 4 as far as texts reach."""

import unittest

from nearkinds.errors import NoTable, NoText
from nearkinds.texts import read_table, table_text
from refusing import RefusalCase
from samples import (
    CUBE, NO_TABLES, ONE, PATH, STEADY, TWO, UNSTEADY, alike, all_tables, deep, greater_one, ring, unlike_bits, written,
)

BY_HAND = [
    (ONE, "0"),
    (TWO, "01/10"),
    (PATH, "012/101/210"),
    (alike(3), "011/101/110"),
    (unlike_bits(4), "0123/1032/2301/3210"),
    (CUBE, "01121223/10212132/12012312/21103221/12230112/21321021/23121201/32212110"),
    (greater_one(8), "01234567/10234567/22034567/33304567/44440567/55555067/66666607/77777770"),
]
TABLES = STEADY + UNSTEADY + list(all_tables(3)) + list(all_tables(4)) + [greater_one(many) for many in range(1, 9)]

WRONG_TEXTS = [
    # A sign more or less, or another one.
    "", "/", "//", "00", "0/", "/0", "0//", "//0", "0/0", "1", "8", "9", "-0", "+0", " 0", "0 ", "0\n", "\n0", "0.",
    "0x0", "01/1", "0/10", "01/100", "010/10", "01/10/", "/01/10", "01//10", "01/ 10", "01 /10", "01/10 ", " 01/10",
    "01/10\n", "01/1O", "0l/l0", "01/1o", "01|10", "01\\10", "01,10", "01 10", "01\n10", "0110", "01/10/01", "(0,)",
    "((0,),)", "table", "x" * 100, "0" * 100, "/" * 100, "None", "01/1_0", "0_1/10", "0,1/1,0", "01/1-0", "0b1",
    "\x00", "0\x00", "\ud800",
    # Figures that make no table.
    "11/11", "00/00", "01/01", "10/01", "02/20", "0-/-0", "03/30", "022/202/220", "013/103/330", "011/101/111",
    "011/101/100", "012/102/210", "009/090/900", "018/108/880", "08/80", "09/90",
    "011111111/101111111/110111111/111011111/111101111/111110111/111111011/111111101/111111110",
    # Figures of other scripts, and figures that are raised, ringed or wide.
    "\u0660", "\u06f0", "\u0966", "\uff10", "\u2070", "\u00b9", "\u24ea", "\U0001d7ce", "\u3007", "\u0bf0",
    "0\u0661/\u06610", "0\uff11/\uff110", "0\u00b9/\u00b90", "01/1\uff10", "\u096601/10", "0\u2460/\u24600",
    "01\u221510", "01\u204410", "01\uff0f10", "01\u00a0/10", "\u200b0", "0\u0301",
]

NO_TEXTS = [
    None, True, False, 0, 1, -1, 10 ** 29, b"0", b"01/10", [], ["0"], ["01", "10"], ("01", "10"), ("0",), (), {},
    {"0": "0"}, ONE, TWO, [[0]], deep(12),
]


class TextTest(RefusalCase):
    def test_by_hand(self):
        for table, text in BY_HAND:
            self.told(text, table_text, table)
            self.told(table, read_table, text)

    def test_read_again(self):
        self.assertEqual({len(table) for table in TABLES}, set(range(1, 9)))
        for table in TABLES:
            self.told(written(table), table_text, table)
            self.told(table, read_table, written(table))

    def test_no_table(self):
        for thing in NO_TABLES + [list(PATH), alike(9), ring(7)[:6], "012/101/210", ((0, 2), (2, 0)), ((False,),)]:
            self.refused(NoTable, table_text, thing)

    def test_not_written_so(self):
        for text in WRONG_TEXTS:
            self.refused(NoText, read_table, text)

    def test_no_text(self):
        for thing in NO_TEXTS:
            self.refused(NoText, read_table, thing)

    def test_one_sign_more_less_or_changed(self):
        for table in (ONE, TWO, PATH, alike(3), ring(5), CUBE):
            right = written(table)
            for at in range(len(right) + 1):
                texts = [right[:at] + right[at + 1:]]
                for sign in "01279/ x\u0661":
                    texts += [right[:at] + sign + right[at:], right[:at] + sign + right[at + 1:]]
                for text in texts:
                    if text != right:
                        self.refused(NoText, read_table, text)


if __name__ == "__main__":
    unittest.main()
