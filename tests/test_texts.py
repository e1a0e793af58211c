"""Texts of sheets and of lots, pictures."""

import unittest
from random import Random

from starsinaring import texts
from starsinaring.errors import BadText, CanNot, Unfit
from tests import plain
from tests.raising import Raising
from tests.rings import GREAT, SMALL, great_full_lots, some_lots
from tests.wrong import nested

SIX, FLAG, HALVES = (6, 2), ((0, 3), (1, 4)), ((0, 3), (1, 4), (2, 5))
SWAP, BACK = ((0, 3), (2, 5)), ((2, 5), (0, 3))
GOOD_SHEETS = [
    (SIX, (), ()), (SIX, ((),), ()), (SIX, (), ((),)), (SIX, ((), ()), ((), ())), (SIX, (FLAG,), ()), (SIX, (FLAG, FLAG, ()), ()),
    (SIX, (), ((SWAP,),)), (SIX, (FLAG, ((2, 5),)), ((SWAP, BACK, SWAP), (), (BACK,))), ((3, 1), ((),), ((), ())), ((39, 19), ((), ()), ((),)),
]
# texts and the line of their first fault
BAD_TEXTS = [
    ("", 0), ("\n", 0), ("\n\n  \n", 0), ("# ring 6 2", 0), ("  # no\n# row\n", 0),
    ("lot", 0), ("\n\nlot", 2), ("row\nring 6 2", 0), ("line 0 3", 0), ("swap 0 3 2 5", 0), ("word", 0), ("6 2", 0), ("ring", 0), ("ring 6", 0),
    ("ring 6 2 1", 0), ("ring 6 -2", 0), ("ring -6 2", 0), ("ring 4 2", 0), ("ring 2 1", 0), ("ring 6 0", 0), ("ring 06 2", 0), ("ring a 2", 0),
    ("ring 6 2-", 0), ("rings 6 2", 0), ("ring6 2", 0), ("\nring 6 3", 1), ("ring 6 1234567890123", 0), ("ring 2 6", 0), ("ring 6 2 lot", 0),
    ("ring 6 2\nring 6 2", 1), ("ring 6 2\nlot\nring 6 2", 2), ("ring 6 2\n\n\nring 7 2", 3), ("ring 6 2\nlots", 1), ("ring 6 2\nlot 1", 1),
    ("ring 6 2\nlot lot", 1), ("ring 6 2\nlot\nlot 0 3", 2), ("ring 6 2\nrow 1", 1), ("ring 6 2\nrow row", 1), ("ring 6 2\nword", 1), ("ring 6 2\n6 2", 1),
    ("ring 6 2\n-", 1), ("ring 6 2\nline 0 3", 1), ("ring 6 2\nrow\nline 0 3", 2), ("ring 6 2\nlot\nline 0 2", 2), ("ring 6 2\nlot\nline 0 4", 2),
    ("ring 6 2\nlot\nline 0 1", 2), ("ring 6 2\nlot\nline 3 0", 2), ("ring 6 2\nlot\nline 0 6", 2), ("ring 6 2\nlot\nline 3 6", 2),
    ("ring 6 2\nlot\nline -3 0", 2), ("ring 6 2\nlot\nline 3 3", 2), ("ring 6 2\nlot\nline 0", 2), ("ring 6 2\nlot\nline", 2), ("ring 6 2\nlot\nline 0 3 1", 2),
    ("ring 6 2\nlot\nline 0 3 1 4", 2), ("ring 6 2\nlot\nline 0 03", 2), ("ring 6 2\nlot\nline 0 x", 2), ("ring 6 2\nlot\nline -0 3", 2), ("ring 6 2\nlot\n0 3", 2),
    ("ring 6 2\nlot\nline 0 3 line 1 4", 2), ("ring 6 2\nlot\nline 0 3\nline 0 3", 3), ("ring 6 2\nlot\nline 1 4\nline 0 3", 3),
    ("ring 6 2\nlot\nline 0 3\nlot\nline 2 5\nline 1 4", 5), ("ring 6 2\nlot\nline 0 3\nline 1 4\nline 2 5", 4),
    ("ring 6 2\nlot\nline 0 3\nline 1 4\nline 2 5\nline 0 3", 4), ("ring 7 2\nlot\nline 0 4\nline 1 5\nline 1 4\n", 4), ("ring 5 1\nlot\nline 0 2\n\nline 1 3", 4),
    ("ring 6 2\nswap 0 3 2 5", 1), ("ring 6 2\nlot\nswap 0 3 2 5", 2), ("ring 6 2\nrow\nswap 0 3 0 3", 2), ("ring 6 2\nrow\nswap 0 3 2", 2),
    ("ring 6 2\nrow\nswap 0 3", 2), ("ring 6 2\nrow\nswap", 2), ("ring 6 2\nrow\nswap 0 3 2 5 1", 2), ("ring 6 2\nrow\nswap 0 2 2 5", 2),
    ("ring 6 2\nrow\nswap 0 3 0 1", 2), ("ring 6 2\nrow\nswap 3 0 2 5", 2), ("ring 6 2\nrow\nswap 0 3 5 2", 2), ("ring 6 2\nrow\nswap 0 3 2 6", 2),
    ("ring 6 2\nrow\nswap 0 3 2 x", 2), ("ring 6 2\nrow\nswap 0 3 2 05", 2), ("ring 6 2\nrow\nswap 0 3 2 5\nswap 2 5 2 5", 3), ("ring 6 2\nrow\nlot", 2), ("ring 6 2\nrow\nswaps 0 3 2 5", 2), ("ring 6 2\nrow\nring 0 3 2 5", 2), ("ring 6 2\nrow\n0 3 2 5", 2),
    ("ring 6 2\nlot\nline 0 3\nrow\nline 1 4", 4), ("ring 6 2\nrow\nrow\nlot", 3), ("ring 6 2\nrow\nswap 0 3 2 5\nlot", 3), ("ring 6 2\nlot\nrow\nswap 0 3 2 5\nline 0 3", 4),
    ("ring 6 2\nlot\nline 1 4\nline 0 3\nline 0 1", 3), ("ring 6 2\nlot\nline 0 1\nrow 5", 2), ("lot\nring 6 2\nring 6 2", 0),
    # faults of section 3 are ahead of all
    ("A", 0), ("ring 6 2\nlot\nline 0 3!", 2), ("lot\nring 6 2\nA", 2), ("ring 4 2\nlot\nline 9 9\n\n[", 4), ("ring 6 2\nline 0 3\n# A !\nRow", 3), ("ring 6 2\n,\n;", 1),
]
BAD_PICTURES = [
    ("", 0), ("\n", 0), ("\n\n", 0), ("o", 0), ("a", 0), ("a\n", 0), ("O==\n=o=\n==o\n", 0), ("o==\n=o=\n==0\n", 2), ("o==\n=o=\n==o", 2), ("o==\n=o=\n==o\n\n", 3),
    ("\no==\n=o=\n==o\n", 0), ("o==\n\n=o=\n==o\n", 1), ("o==\n=o=\n==o\n=", 3), ("o==\n=o\n==o\n", 1), ("o==\n=o==\n==o\n", 1), ("o==\n=o=\n==o \n", 2),
    ("o==\n=o=\n== o", 2), ("o==\n=o #\n==o\n", 1), ("o= =\n", 0), ("o==\n=o=\n=#o", 2), ("ox\nx", 1), ("ox\nxo\nxxo\nq\n", 2), ("ox\nq\n\n", 1), ("oxx\nxox\nxxX", 2),
]
NO_PICTURES = [
    "o\n", "=\n", "oo\n", "o=\n=o\n", "o=\n", "o==\n", "o==\n=o=\n", "o==\n=o=\n==o\n==o\n", "oxx\nxox\nxxo\n", "ooo\nooo\nooo\n", "o=.=\n=o=.\n.=o=\n=x=o\n", "x==\n=o=\n==o\n",
    "o==\n=o=\n=oo\n", "o--\n-o-\n--o\n", "o-=\n-o-\n=-o\n", "o=x=\n=o=x\nx=o=\n=x=o\n", "o=x=\n=o=.\nx=o=\n=.=x\n", "o=x=\n=o=.\n.=o=\n=.=o\n", "o=.=\n=o=.\nx=o=\n=.=o\n",
    "o=-=\n=o=.\n-=o=\n=.=o\n", "o.=.\n.o.=\n=.o.\n.=.o\n", "====\n====\n====\n====\n", "....\n....\n....\n....\n", "o=x=\n=o=.\nx=o=\n=.=.\n",
]


def sheet_text(sheet):
    """As the document tells it, row by row."""
    (n, k), lots, rows = sheet
    told = [f"ring {n} {k}"]
    for lot in lots:
        told += ["lot"] + [f"line {a} {b}" for a, b in lot]
    for row in rows:
        told += ["row"] + [f"swap {a} {b} {c} {d}" for (a, b), (c, d) in row]
    return "".join(own + "\n" for own in told)


def picture(ring, lot):
    n, k = ring
    text = ""
    for point in range(n):
        for far in range(n):
            line = plain.line_of(point, far)
            steps = plain.length(n, line) if point != far else 0
            text += "o" if point == far else "-" if steps < k else "=" if steps == k else "x" if line in lot else "."
        text += "\n"
    return text


def some_sheets(seed):
    """SHEETS of small rings, always the same ones."""
    source = Random(seed)
    found = []
    for ring in SMALL:
        lots, long = plain.all_lots(ring), plain.long_lines(ring)
        pairs = [(gone, come) for gone in long for come in long if gone != come]
        for _ in range(8):
            some = tuple(source.choice(lots) for _ in range(source.randint(0, 4)))
            rows = tuple(tuple(source.choice(pairs) for _ in range(source.randint(0, 3) if pairs else 0)) for _ in range(source.randint(0, 3)))
            found.append((ring, some, rows))
    return found


def roughened(text, source):
    """text with more blanks, remarks at ends of lines, lines without words."""
    told = []
    for row in text.splitlines():
        if source.random() < 0.3:
            told.append(source.choice(["", "   ", "# a Remark, no row!", "  # lot"]))
        row = source.choice(["", " ", "   "]) + row.replace(" ", source.choice([" ", "  ", "     "]))
        told.append(row + source.choice(["", " ", "# 7", "  # x ring # Y"]))
    return "\n".join(told) + source.choice(["", "\n", "\n\n# end", "\n  \n"])


class Sheets(Raising):
    def test_written_and_read_back(self):
        source = Random(7)
        for sheet in GOOD_SHEETS + some_sheets(3):
            self.assertIs(texts.is_sheet(sheet), True)
            text = texts.sheet_text(sheet)
            self.assertEqual(sheet_text(sheet), text)
            self.assertEqual(sheet, texts.read_sheet(text))
            self.assertEqual(text, texts.sheet_text(plain.deep_list(sheet)))
            for _ in range(3):
                self.assertEqual(sheet, texts.read_sheet(roughened(text, source)))

    def test_texts_that_are_not_as_told(self):
        for text, line in BAD_TEXTS:
            self.assert_raises(BadText, {"line": line}, texts.read_sheet, text)
            if line or text.startswith("ring"):
                self.assert_raises(BadText, {"line": line + 2}, texts.read_sheet, "# first\n\n" + text)

    def test_first_fault_counts(self):
        good = "ring 6 2\nlot\nline 0 3\nrow\nswap 0 3 2 5\n"
        for text, line in BAD_TEXTS:
            if text.startswith("ring 6 2\n") and "lot" not in text and "line" not in text:
                rest = text[len("ring 6 2\n"):]
                self.assert_raises(BadText, {"line": line + 4}, texts.read_sheet, good + rest if not rest.startswith("swap 0 3 2 5") else good + "lot")
        self.assert_raises(BadText, {"line": 5}, texts.read_sheet, good + "line 1 4\nring")

    def test_what_is_no_sheet(self):
        things = [None, True, 5, "", "ring 6 2\n", (), (SIX,), (SIX, ()), (SIX, (), (), ()), ((), (), ()), ((4, 2), (), ()), ([6, 2], (), ()), ((6, True), (), ()), (6, 2),
                  (SIX, [], ()), (SIX, (), []), (SIX, None, ()), (SIX, (), None), (SIX, "", ()), (SIX, (), ""), (SIX, FLAG, ()), (SIX, ([],), ()), (SIX, (), ([],)),
                  (SIX, (HALVES,), ()), (SIX, (FLAG, HALVES), ()), (SIX, (FLAG[::-1],), ()), (SIX, (((0, 2),),), ()), (SIX, (((0, 1),),), ()), (SIX, (((0, 6),),), ()),
                  (SIX, ((FLAG[0], FLAG[0]),), ()), (SIX, (list(FLAG),), ()), (SIX, (([0, 3], (1, 4)),), ()), (SIX, (((False, 3),),), ()), (SIX, (None,), ()), (SIX, (5,), ()),
                  (SIX, (), (SWAP,)), (SIX, (), ((SWAP[0],),)), (SIX, (), ((list(SWAP),),)), (SIX, (), (([0, 3], (2, 5)),)), (SIX, (), ([SWAP],)), (SIX, (), (((0, 3), (0, 3)),)),
                  (SIX, (), ((((0, 3), (0, 3)),),)), (SIX, (), ((((0, 3), (0, 2)),),)), (SIX, (), ((((0, 1), (0, 3)),),)), (SIX, (), ((((0, 3), (5, 2)),),)),
                  (SIX, (), ((((0, 3), (2, 6)),),)), (SIX, (), ((((0, 3), (2, 5), (1, 4)),),)), (SIX, (), ((((0, 3),),),)), (SIX, (), ((((0, True), (2, 5)),),)), (SIX, (), ((None,),)),
                  nested(20, ()), nested(18, SIX), (SIX, nested(19, ()), ()), (SIX, (), nested(19, ())), ((FLAG,), SIX, ())]
        for thing in things:
            self.assertIs(texts.is_sheet(thing), False, thing)
        for thing in GOOD_SHEETS + some_sheets(4)[::5]:
            self.assertIs(texts.is_sheet(thing), True)
            self.assertIs(texts.is_sheet(list(thing)), False)
            self.assertIs(texts.is_sheet(plain.deep_list(thing)), False)
            for depth in range(plain.depth_of(thing)):
                self.assertIs(texts.is_sheet(plain.lists_at(thing, depth)), False)
        # what is no SHEET even with lists in the place of tuples
        for thing in things:
            if not texts.is_sheet(tuples(thing)):
                self.assert_raises(Unfit, {}, texts.sheet_text, thing)

    def test_sheets_of_rings_of_any_size(self):
        huge = 10 ** 100
        for ring, lots, good in (((huge, 5), (), True), ((huge, huge), (), False), ((10 ** 6, 1), (((0, 2), (0, 500), (5, 77)),), True), ((10 ** 6, 1), (((0, 2), (1, 500)),), False),
                                 ((2 * huge + 1, huge), ((),), True), ((huge, 2), (((0, 7), (1, huge // 2)), ((3, 10 ** 50),)), True), ((huge, 2), (((0, 7), (1, 8), (2, huge // 2)),), False),
                                 ((1000, 1), (tuple((0, b) for b in range(2, 999)),), True), ((1000, 3), (tuple((a, a + 500) for a in range(4)),), False)):
            self.assertIs(texts.is_sheet((ring, lots, ())), good)
        self.assertIs(texts.is_sheet(((huge, 1), (), ((((0, 2), (5, huge // 3)),),))), True)
        self.assertEqual(((999999999999, 7), (), ((),)), texts.read_sheet("ring 999999999999 7\nrow"))
        self.assertEqual(((100000, 1), (((0, 50000), (1, 3)),), ()), texts.read_sheet("ring 100000 1\nlot\nline 0 50000\nline 1 3"))
        self.assert_raises(BadText, {"line": 3}, texts.read_sheet, "ring 100000 1\nlot\nline 0 50000\nline 1 50001")


def tuples(value):
    return tuple(tuples(own) for own in value) if isinstance(value, (list, tuple)) else value


class Lots(Raising):
    def test_written_and_read_back(self):
        source = Random(8)
        for ring, lot in some_lots()[::3]:
            text = texts.lot_text(ring, lot)
            self.assertEqual(" ".join(f"{a} {b}" for a, b in lot), text)
            self.assertEqual(lot, texts.read_lot(ring, text))
            self.assertEqual(lot, texts.read_lot(ring, roughened(text.replace(" ", "\n", 3), source)))

    def test_texts_that_are_no_lot(self):
        for text in ("0", "0 3 1", "3 0", "0 3 0 3", "1 4 0 3", "0 3 1 4 2 5", "0 2", "0 1", "0 6", "3 6", "-3 0", "0 03", "0 x", "line 0 3", "0 3 1 4 x", "-0 3", "0 3 lot", "0 3 1 4 -",
                     "\n\n0 3\n1", "0 1234567890123", "0 3\n0 4"):
            self.assert_raises(BadText, {"line": 0}, texts.read_lot, SIX, text)
        for text, line in (("0 3\n1 A", 1), ("A", 0), ("0\n\n3,", 2), ("0 3 1\n#!\n!", 2), ("x\n.", 1), ("0 2\n\n\n+", 3)):
            self.assert_raises(BadText, {"line": line}, texts.read_lot, SIX, text)
        for text in ("", "\n\n", "  ", "# 0 3", "# A !\n"):
            self.assertEqual((), texts.read_lot(SIX, text))
        self.assertEqual(FLAG, texts.read_lot(list(SIX), "0\n3 # 9\n\n   1 4\n"))

    def test_wrong_values(self):
        for ring in ((4, 2), (6, True), None, 6, "62", (6,), (6, 2, 1)):
            self.assert_raises(Unfit, {}, texts.read_lot, ring, "A")
            self.assert_raises(Unfit, {}, texts.lot_text, ring, FLAG)
            self.assert_raises(Unfit, {}, texts.picture, ring, FLAG)
        for lot in (HALVES, FLAG[::-1], ((0, 2),), None, 5, ((0, True),)):
            self.assert_raises(Unfit, {}, texts.lot_text, SIX, lot)
            self.assert_raises(Unfit, {}, texts.picture, SIX, lot)


class Pictures(Raising):
    def test_written_and_read_back(self):
        for ring, lot in some_lots()[::2]:
            text = texts.picture(ring, lot)
            self.assertEqual(picture(ring, lot), text)
            self.assertEqual((ring, lot), texts.read_picture(text))

    def test_each_k_of_one_n(self):
        for n in (9, 12, 40):
            for k in range(1, (n - 1) // 2 + 1):
                self.assertEqual(((n, k), ()), texts.read_picture(picture((n, k), ())))
                self.assertEqual(picture((n, k), ()), texts.picture((n, k), ()))

    def test_texts_with_other_signs(self):
        for text, line in BAD_PICTURES:
            self.assert_raises(BadText, {"line": line}, texts.read_picture, text)

    def test_texts_that_are_no_pictures(self):
        for text in NO_PICTURES:
            self.assert_raises(CanNot, {}, texts.read_picture, text)
        # lines that are no LOT
        n, k = 6, 2
        rows = picture((n, k), HALVES)
        self.assert_raises(CanNot, {}, texts.read_picture, rows)

    def test_each_sign_counts(self):
        for ring, lot in (((5, 1), ((0, 2), (0, 3))), (SIX, FLAG), ((7, 2), ((0, 3), (2, 6)))):
            text = picture(ring, lot)
            for at in range(len(text)):
                for sign in "o-=x.":
                    if text[at] not in ("\n", sign):
                        self.assert_raises(CanNot, {}, texts.read_picture, text[:at] + sign + text[at + 1:])
                if text[at] != "\n":
                    line = text[:at].count("\n")
                    self.assert_raises(BadText, {"line": line}, texts.read_picture, text[:at] + "X" + text[at + 1:])
            self.assert_raises(BadText, {"line": ring[0] - 1}, texts.read_picture, text[:-1])


class GreatRings(Raising):
    def test_all_functions(self):
        for ring in GREAT:
            lots = great_full_lots(ring)
            for lot in lots:
                self.assertEqual((ring, lot), texts.read_picture(texts.picture(ring, lot)))
                self.assertEqual(picture(ring, lot), texts.picture(ring, lot))
                self.assertEqual(lot, texts.read_lot(ring, texts.lot_text(ring, lot)))
            pairs = tuple((gone, come) for gone, come in zip(lots[0], lots[1]) if gone != come)
            sheet = (ring, (*lots, lots[2][::2], ()), (pairs, pairs[:1], ()))
            self.assertIs(texts.is_sheet(sheet), True)
            self.assertEqual(sheet_text(sheet), texts.sheet_text(sheet))
            self.assertEqual(sheet, texts.read_sheet(texts.sheet_text(sheet)))


if __name__ == "__main__":
    unittest.main()
