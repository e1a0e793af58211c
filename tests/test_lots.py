"""Lots: sets of long lines no k + 1 of which cross two by two."""

import unittest
from itertools import combinations

from starsinaring import lots
from starsinaring.errors import CanNot, NoLine, Unfit
from tests import plain

WHOLE = [(3, 1), (4, 1), (5, 1), (5, 2), (6, 1), (6, 2), (7, 2), (7, 3), (8, 3), (9, 3), (9, 4)]
SOME = [(7, 1, 900), (8, 2, 900), (8, 1, 1500), (9, 2, 700), (10, 3, 600)]
GREAT = [(40, 1), (40, 2), (40, 6), (40, 13), (40, 18), (40, 19), (39, 19), (37, 3)]


def drawings():
    """RINGS, each with all its DRAWINGS or with some of them."""
    found = [(ring, plain.subsets(plain.long_lines(ring))) for ring in WHOLE]
    for n, k, many in SOME:
        long = plain.long_lines((n, k))
        found.append(((n, k), plain.some_subsets(long, many, seed=n) + [(), long]))
    return found


class SmallRings(unittest.TestCase):
    """Each function beside a plain search."""

    @classmethod
    def setUpClass(cls):
        cls.drawings = drawings()
        cls.lots = {ring: plain.lots_of(ring, told) for ring, told in cls.drawings}
        cls.tables = {n: plain.cross_table(n) for n in range(3, 11)}

    def test_is_lot(self):
        for ring, told in self.drawings:
            good = set(self.lots[ring])
            for drawing in told:
                self.assertIs(lots.is_lot(ring, drawing), drawing in good, (ring, drawing))

    def test_what_is_left_of_a_lot_is_one(self):
        for ring in WHOLE:
            good = set(self.lots[ring])
            for lot in good:
                self.assertTrue(all(tuple(own for own in lot if own != line) in good for line in lot))

    def each(self, step):
        """LOTS, each with the long LINES, those out of it that can be put to it, and those that cannot."""
        for ring in self.lots:
            long = plain.long_lines(ring)
            for lot in self.lots[ring][::step]:
                out = [line for line in long if line not in lot]
                more = {tuple(sorted((*lot, line))): line for line in out}
                can = tuple(more[own] for own in plain.lots_of(ring, list(more)))
                yield ring, lot, long, can, tuple(line for line in out if line not in can)

    def test_what_can_come(self):
        for ring, lot, long, can, cannot in self.each(3):
            self.assertEqual(can, lots.can_come(ring, lot))
            self.assertEqual(cannot, lots.barred(ring, lot))
            for line in plain.all_lines(ring[0]):
                if line in can:
                    self.assertEqual(tuple(sorted((*lot, line))), lots.put_to(ring, lot, line))
                    with self.assertRaises(CanNot):
                        lots.bar_of(ring, lot, line)
                elif line in cannot:
                    with self.assertRaises(CanNot):
                        lots.put_to(ring, lot, line)
                else:
                    self.assert_no_line(line, lots.put_to, ring, lot, line)
                    self.assert_no_line(line, lots.bar_of, ring, lot, line)
                    self.assert_no_line(line, lots.keys_to, ring, lot, line)
                    self.assert_no_line(line, lots.is_bar, ring, lot, line, None)

    def assert_no_line(self, line, function, *values):
        with self.assertRaises(NoLine) as caught:
            function(*values)
        self.assertEqual({"line": line}, vars(caught.exception))

    def test_struck(self):
        for ring, lot, _, _, _ in self.each(5):
            for line in plain.all_lines(ring[0]):
                if line in lot:
                    self.assertEqual(tuple(own for own in lot if own != line), lots.struck(ring, lot, line))
                else:
                    self.assert_no_line(line, lots.struck, ring, lot, line)

    def test_crossed_by(self):
        for ring, lot, _, can, cannot in self.each(7):
            table = self.tables[ring[0]]
            for line in plain.all_lines(ring[0]):
                most = plain.greatest(table, tuple(own for own in lot if (own, line) in table))
                self.assertEqual(most, lots.crossed_by(ring, lot, line))
                if line in can or line in cannot:
                    self.assertEqual(line in can, most < ring[1])

    def test_bars(self):
        for ring, lot, _, can, cannot in self.each(9):
            n, k = ring
            table = self.tables[n]
            for line in can + cannot:
                crossing = tuple(own for own in lot if (own, line) in table)
                bars = plain.crowds(table, crossing, k)
                self.assertEqual(bool(bars), line in cannot)
                if bars:
                    self.assertIn(lots.bar_of(ring, lot, line), bars)
                for size in range(min(k, 3) + 2):
                    for thing in combinations(lot, size):
                        self.assertIs(lots.is_bar(ring, lot, line, thing), thing in bars)
                for thing in bars[:2]:
                    self.assertIs(lots.is_bar(ring, lot, line, list(thing)), False)
                    self.assertIs(lots.is_bar(ring, lot, line, (list(thing[0]), *thing[1:])), False)
                    self.assertIs(lots.is_bar(ring, lot, line, thing + thing[-1:]), False)
                for thing in plain.crowds(table, plain.long_lines(ring), k)[:40]:
                    self.assertIs(lots.is_bar(ring, lot, line, thing), thing in bars)

    def test_keys(self):
        for ring, lot, _, can, cannot in self.each(9):
            for line in can:
                self.assertEqual(lot, lots.keys_to(ring, lot, line))
            for line in cannot:
                less = {own: tuple(sorted({*lot, line} - {own})) for own in lot}
                good = plain.lots_of(ring, list(less.values()))
                self.assertEqual(tuple(own for own in lot if less[own] in good), lots.keys_to(ring, lot, line))

    def test_are_one(self):
        for ring, told in self.lots.items():
            for lot, other in zip(told[::2], told[::-3]):
                both = tuple(sorted({*lot, *other}))
                expected = bool(plain.lots_of(ring, [both]))
                self.assertIs(lots.are_one_lot(ring, lot, other), expected)
                self.assertIs(lots.are_one_lot(ring, other, lot), expected)
                self.assertIs(lots.are_one_lot(ring, lot, lot), True)
                self.assertIs(lots.are_one_lot(ring, lot, ()), True)

    def test_sifted(self):
        for ring, told in self.drawings:
            if ring[0] > 8:
                continue
            good = set(self.lots[ring]) if ring in WHOLE else None
            for drawing in told[::4]:
                kept = ()
                for line in drawing:
                    more = (*kept, line)
                    if more in good if good is not None else plain.lots_of(ring, [more]):
                        kept = more
                self.assertEqual(kept, lots.sifted(ring, drawing))

    def test_drawings_that_are_no_lots(self):
        for ring, told in self.drawings:
            good = set(self.lots[ring])
            bad = [own for own in told if own not in good]
            for drawing in bad[::len(bad) // 6 + 1]:
                for function in (lots.can_come, lots.barred):
                    with self.assertRaises(Unfit):
                        function(ring, drawing)
                for function in (lots.crossed_by, lots.put_to, lots.struck, lots.bar_of, lots.keys_to):
                    with self.assertRaises(Unfit):
                        function(ring, drawing, drawing[0])
                with self.assertRaises(Unfit):
                    lots.is_bar(ring, drawing, drawing[0], ())
                for pair in ((drawing, ()), ((), drawing)):
                    with self.assertRaises(Unfit):
                        lots.are_one_lot(ring, *pair)


class Things(unittest.TestCase):
    def test_is_lot(self):
        for thing in ([], [(0, 3)], ([0, 3],), ((0, 3), (0, 3)), ((1, 4), (0, 3)), ((0, 2),), ((0, 1), (0, 3)), ((0, 6),),
                      ((0, 7),), ((3, 0),), ((False, 3),), ((0, 3), None), ((0, 3), (1, True)), (0, 3), None, "", "lot", 0, False,
                      ((0, 3, 4),), (((0, 3),),), ((0, 3), (1, 5), (2, 6)), ((-4, 0),), ((0, 10 ** 100),), ((0, 3),) * 5000,
                      tuple((0, b) for b in range(9999)), {}):
            self.assertIs(lots.is_lot((7, 2), thing), False, thing)
        for thing in ((), ((0, 3),), ((0, 3), (0, 4), (1, 4), (1, 5)), ((0, 3), (1, 4))):
            self.assertIs(lots.is_lot((7, 2), thing), True, thing)
        self.assertIs(lots.is_lot((5, 2), ()), True)
        self.assertIs(lots.is_lot((5, 2), ((0, 2),)), False)
        self.assertIs(lots.is_lot((40, 19), ((0, 20),)), True)

    def test_edges(self):
        for ring in ((3, 1), (5, 2), (39, 19)):
            self.assertEqual(((), ()), (lots.can_come(ring, ()), lots.barred(ring, ())))
            self.assertEqual((), lots.sifted(ring, ()))
            self.assertIs(lots.are_one_lot(ring, (), ()), True)
            self.assertEqual(0, lots.crossed_by(ring, (), (0, 2)))
            for function in (lots.put_to, lots.struck, lots.bar_of, lots.keys_to):
                with self.assertRaises(NoLine):
                    function(ring, (), (0, 2))

    def test_order_of_errors(self):
        # a rim LINE out of the LOT: no LINE to be put, though it would not be barred either
        with self.assertRaises(NoLine):
            lots.put_to((7, 2), ((0, 3),), (0, 2))
        with self.assertRaises(NoLine):
            lots.bar_of((7, 2), ((0, 3),), (0, 3))
        with self.assertRaises(NoLine) as caught:
            lots.is_bar([7, 2], [[0, 3]], [0, 3], [])
        self.assertEqual("(0, 3)", repr(caught.exception.line))


class GreatRings(unittest.TestCase):
    def test_all_functions(self):
        for ring in GREAT:
            n, k = ring
            long = tuple((a, b) for a, b in plain.all_lines(n) if k < b - a < n - k)
            fan = tuple(own for own in long if own[0] < k)
            self.assertIs(lots.is_lot(ring, fan), True)
            self.assertIs(lots.is_lot(ring, long), not long)
            self.assertEqual(fan, lots.sifted(ring, long))
            self.assertEqual(((), tuple(own for own in long if own[0] >= k)), (lots.can_come(ring, fan), lots.barred(ring, fan)))
            half = fan[::2]
            can = lots.can_come(ring, half)
            self.assertEqual(len(long) - len(half), len(can) + len(lots.barred(ring, half)))
            self.assertLessEqual(set(fan) - set(half), set(can))
            self.assertIs(lots.are_one_lot(ring, half, fan[1::2]), True)
            for line in lots.barred(ring, fan)[::37]:
                bar = lots.bar_of(ring, fan, line)
                self.assertIs(lots.is_bar(ring, fan, line, bar), True)
                self.assertEqual(k, lots.crossed_by(ring, fan, line))
                self.assertTrue(all(a < c < b < d for (a, b), (c, d) in combinations(bar, 2)))
                for key in lots.keys_to(ring, fan, line):
                    less = lots.struck(ring, fan, key)
                    self.assertIn(line, lots.can_come(ring, less))
                    self.assertEqual(tuple(sorted((*less, line))), lots.put_to(ring, less, line))
            if long:
                self.assertIs(lots.are_one_lot(ring, fan, long[-1:]), False)
                self.assertEqual(0, lots.crossed_by(ring, fan, (0, n - 1)))


if __name__ == "__main__":
    unittest.main()
