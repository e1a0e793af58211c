"""Full lots, and how lots come to be full."""

import unittest
from itertools import combinations
from random import Random

from starsinaring import filling
from starsinaring.errors import CanNot, NoPoint, Unfit
from tests import plain

WHOLE = [(3, 1), (4, 1), (5, 1), (5, 2), (6, 1), (6, 2), (7, 2), (7, 3), (8, 2), (8, 3), (9, 3), (9, 4)]
GREAT = [(40, 1), (40, 2), (40, 6), (40, 13), (40, 18), (40, 19), (39, 19), (37, 3)]
# how many FULL LOTS there are, as section 18 tells them
MANY = {(3, 1): 1, (4, 1): 2, (5, 1): 5, (6, 1): 14, (5, 2): 1, (6, 2): 3, (7, 2): 14, (8, 2): 84, (8, 3): 4, (9, 3): 30}


def fan(ring, point):
    n, k = ring
    ends = {(point + step) % n for step in range(k)}
    return tuple(line for line in plain.long_lines(ring) if set(line) & ends)


class SmallRings(unittest.TestCase):
    """Each function beside a plain search over all sets of long LINES."""

    @classmethod
    def setUpClass(cls):
        cls.drawings = {ring: plain.subsets(plain.long_lines(ring)) for ring in WHOLE}
        cls.lots = {ring: set(plain.lots_of(ring, cls.drawings[ring])) for ring in WHOLE}
        cls.full = {ring: {own for own in cls.lots[ring] if not cls.more(ring, own)} for ring in WHOLE}

    @classmethod
    def more(cls, ring, lot):
        """The long LINES that can be put to lot."""
        out = [line for line in plain.long_lines(ring) if line not in lot]
        return [line for line in out if tuple(sorted((*lot, line))) in cls.lots[ring]]

    def test_full_lots(self):
        for ring in WHOLE:
            n, k = ring
            size = k * (n - 2 * k - 1)
            self.assertEqual(size, filling.full_size(ring))
            self.assertEqual(MANY.get(ring, len(self.full[ring])), len(self.full[ring]))
            for drawing in self.drawings[ring]:
                self.assertIs(filling.is_full(ring, drawing), drawing in self.full[ring])
            for lot in self.lots[ring]:
                self.assertEqual(size - len(lot), filling.lines_short(ring, lot))
            for line in plain.long_lines(ring):
                self.assertTrue(any(line in own for own in self.full[ring]))
                self.assertTrue(any(line not in own for own in self.full[ring]))

    def test_put_in_turn(self):
        source = Random(7)
        for ring in WHOLE:
            long = plain.long_lines(ring)
            for lot in sorted(self.lots[ring])[::3]:
                row = source.sample(long, source.randint(0, len(long)))
                put = plain.put_in_turn(self.lots[ring], lot, row)
                self.assertEqual(put, filling.put_in_turn(ring, lot, tuple(row)))
                self.assertEqual(put, filling.put_in_turn(ring, lot, row))
                full = plain.put_in_turn(self.lots[ring], put, long)
                self.assertEqual(full, filling.filled_by(ring, lot, tuple(row)))
                self.assertIn(full, self.full[ring])
                self.assertLessEqual(set(lot), set(full))
                self.assertEqual(plain.put_in_turn(self.lots[ring], lot, long), filling.filled(ring, lot))
                every = source.sample(long, len(long))
                self.assertIn(filling.put_in_turn(ring, lot, tuple(every)), self.full[ring])

    def test_why_not_full(self):
        for ring in WHOLE:
            n, k = ring
            table = plain.cross_table(n)
            for drawing in self.drawings[ring][::3] + sorted(self.full[ring]):
                if drawing in self.full[ring]:
                    with self.assertRaises(CanNot):
                        filling.why_not_full(ring, drawing)
                    continue
                word, why = filling.why_not_full(ring, drawing)
                if drawing in self.lots[ring]:
                    self.assertEqual("line", word)
                    self.assertIn(why, self.more(ring, drawing))
                else:
                    self.assertEqual("crowd", word)
                    self.assertIn(why, plain.crowds(table, drawing, k + 1))
                self.assertIs(filling.is_why_not_full(ring, drawing, (word, why)), True)

    def test_is_why_not_full(self):
        for ring in ((5, 1), (5, 2), (6, 2), (7, 2), (6, 1), (8, 3)):
            n, k = ring
            table = plain.cross_table(n)
            crowds = plain.crowds(table, plain.long_lines(ring), k + 1)
            less = plain.crowds(table, plain.long_lines(ring), k)
            for drawing in self.drawings[ring][::5] + sorted(self.full[ring])[:5]:
                good = []
                if drawing not in self.lots[ring]:
                    good = [("crowd", own) for own in crowds if set(own) <= set(drawing)]
                elif drawing not in self.full[ring]:
                    good = [("line", own) for own in self.more(ring, drawing)]
                for own in plain.all_lines(n):
                    self.assertIs(filling.is_why_not_full(ring, drawing, ("line", own)), ("line", own) in good)
                    self.assertIs(filling.is_why_not_full(ring, drawing, ("crowd", own)), False)
                for own in crowds + less:
                    self.assertIs(filling.is_why_not_full(ring, drawing, ("crowd", own)), ("crowd", own) in good)
                    self.assertIs(filling.is_why_not_full(ring, drawing, ("line", own)), False)
                for word, why in good[:3]:
                    for thing in ([word, why], (word, list(why)), (word, why, why), (why, word), (word,), why, word, None,
                                  (word.upper(), why), (None, why), (True, why), (word, None), (word, ()), ((word, why),)):
                        self.assertIs(filling.is_why_not_full(ring, drawing, thing), False, thing)

    def test_fans(self):
        for ring in WHOLE:
            n, _ = ring
            for point in range(n):
                self.assertEqual(fan(ring, point), filling.fan_at(ring, point))
                self.assertIn(fan(ring, point), self.full[ring])
            for lot in self.full[ring]:
                own = tuple(point for point in range(n) if fan(ring, point) == lot)
                self.assertEqual(own, filling.fans_like(ring, lot))
            for point in (-1, n, n + 1, 10 ** 6):
                with self.assertRaises(NoPoint) as caught:
                    filling.fan_at(ring, point)
                self.assertEqual({"point": point}, vars(caught.exception))
            for lot in sorted(self.lots[ring] - self.full[ring])[::3]:
                with self.assertRaises(Unfit):
                    filling.fans_like(ring, lot)

    def test_drawings_that_are_no_lots(self):
        for ring in WHOLE:
            bad = [own for own in self.drawings[ring] if own not in self.lots[ring]]
            for drawing in bad[::len(bad) // 9 + 1]:
                for function in (filling.lines_short, filling.filled, filling.fans_like):
                    with self.assertRaises(Unfit):
                        function(ring, drawing)
                for function in (filling.put_in_turn, filling.filled_by):
                    with self.assertRaises(Unfit):
                        function(ring, drawing, ())


class Edges(unittest.TestCase):
    def test_no_long_lines(self):
        for ring in ((3, 1), (5, 2), (39, 19)):
            self.assertIs(filling.is_full(ring, ()), True)
            self.assertEqual((0, 0), (filling.full_size(ring), filling.lines_short(ring, ())))
            self.assertEqual(((), (), ()), (filling.put_in_turn(ring, (), ()), filling.filled(ring, ()), filling.fan_at(ring, 2)))
            self.assertEqual((), filling.filled_by(ring, (), ()))
            self.assertEqual(tuple(range(ring[0])), filling.fans_like(ring, ()))
            with self.assertRaises(CanNot):
                filling.why_not_full(ring, ())
            self.assertIs(filling.is_why_not_full(ring, (), ("line", (0, 2))), False)
            with self.assertRaises(Unfit):
                filling.put_in_turn(ring, (), ((0, 2),))

    def test_kinds(self):
        wide = ((0, 3), (1, 5), (2, 5), (3, 6))
        for thing in (list(wide), wide[:3], wide[::-1], wide + wide[:1], ([0, 3],) + wide[1:], ((False, 3),) + wide[1:], (), None,
                      wide + ((4, 7),), ((0, 2),) + wide[:3], 4, "full", (wide,), wide[:3] + (None,), ((0, 1), (0, 3), (1, 4), (2, 5))):
            self.assertIs(filling.is_full((7, 2), thing), False, thing)
        # so many LINES, three of which cross two by two
        self.assertIs(filling.is_full((7, 2), ((0, 3), (1, 4), (2, 5), (3, 6))), False)
        self.assertIs(filling.is_full((7, 2), wide), True)

    def test_rows_are_in_whatever_order(self):
        for row in (((2, 5), (0, 3)), [[2, 5], [0, 3]], ([2, 5], (0, 3))):
            self.assertEqual(((0, 3), (2, 5)), filling.put_in_turn((6, 2), (), row))
        # LINES that the LOT has are passed over
        self.assertEqual(((0, 3), (2, 5)), filling.put_in_turn((6, 2), ((0, 3),), ((0, 3), (2, 5), (1, 4))))
        for row in (((0, 3), (0, 3)), ((0, 3), (2, 5), (0, 3)), ((0, 2),), ((2, 5), (0, 6)), ((2, 5), (4, 1)), (0, 3), None, 3,
                    ((2, 5), None), {(0, 3)}, ((0, 3), (False, 3))):
            for function in (filling.put_in_turn, filling.filled_by):
                with self.assertRaises(Unfit):
                    function((6, 2), (), row)


class GreatRings(unittest.TestCase):
    def test_all_functions(self):
        for ring in GREAT:
            n, k = ring
            size = k * (n - 2 * k - 1)
            long = tuple((a, b) for a, b in plain.all_lines(n) if k < b - a < n - k)
            least = tuple(own for own in long if own[0] < k)
            self.assertEqual(size, filling.full_size(ring))
            self.assertEqual(size, len(least))
            self.assertEqual(least, filling.filled(ring, ()))
            self.assertEqual(least, filling.put_in_turn(ring, (), long))
            last = filling.filled_by(ring, (), long[::-1])
            self.assertEqual(tuple(own for own in long if own[1] >= n - k), last)
            self.assertIs(filling.is_full(ring, last), True)
            self.assertIs(filling.is_full(ring, long), not long)
            self.assertEqual(size - len(least[::3]), filling.lines_short(ring, least[::3]))
            for point in (0, 1, n // 2, n - k, n - 1):
                own = filling.fan_at(ring, point)
                ends = {(point + step) % n for step in range(k)}
                self.assertEqual(tuple(line for line in long if set(line) & ends), own)
                self.assertIs(filling.is_full(ring, own), True)
                self.assertIn(point, filling.fans_like(ring, own))
            mixed = filling.filled_by(ring, least[1::4], long[::-3])
            self.assertIs(filling.is_full(ring, mixed), True)
            self.assertLessEqual(set(least[1::4]), set(mixed))
            if long:
                word, why = filling.why_not_full(ring, long)
                self.assertEqual(("crowd", k + 1), (word, len(why)))
                self.assertTrue(all(a < c < b < d for (a, b), (c, d) in combinations(why, 2)))
                self.assertIs(filling.is_why_not_full(ring, long, (word, why)), True)
                word, why = filling.why_not_full(ring, mixed[1:])
                self.assertIs(filling.is_why_not_full(ring, mixed[1:], (word, why)), True)
                self.assertEqual("line", word)
            with self.assertRaises(CanNot):
                filling.why_not_full(ring, mixed)


if __name__ == "__main__":
    unittest.main()
