"""Full lots in order: each leads, from father to father, to the least one."""

import unittest

from starsinaring import checks, order, putting
from starsinaring.errors import NoLine, TooMany, Unfit
from tests import plain
from tests.raising import Raising
from tests.rings import FURTHER_FULL, GREAT, SMALL, great_full_lots, some_full_lots

# as many FULL LOTS as are few, of all rings to 40 points, and more
MOST, MORE = (35, 16), (37, 17)


def all_rings():
    return SMALL + [(n, k) for n, k, _ in FURTHER_FULL]


class SmallRings(Raising):
    """Each function beside a plain search over all FULL LOTS."""

    def test_least_and_greatest(self):
        for ring in all_rings():
            n, k = ring
            lots = plain.full_lots(ring)
            self.assertEqual((lots[0], lots[-1]), (order.least_full(ring), order.greatest_full(ring)))
            self.assertEqual(len(lots), putting.how_many_full_lots(ring))
            for lot in lots:
                falling = [gone for gone, come in plain.exchanges(ring)[lot] if come < gone]
                rising = [gone for gone, come in plain.exchanges(ring)[lot] if come > gone]
                self.assertEqual((lot == lots[0], lot == lots[-1]), (not falling, not rising))

    def test_lines_that_fall(self):
        for ring, lot in some_full_lots():
            pairs = plain.exchanges(ring)[lot]
            falling = tuple(gone for gone, come in pairs if plain.swapped(lot, gone, come) < lot)
            self.assertEqual(falling, order.falling(ring, lot))
            self.assertEqual(tuple(line for line in lot if line not in falling), order.rising(ring, lot))
            for line in plain.all_lines(ring[0]):
                if line in lot:
                    self.assertIs(order.does_fall(ring, lot, line), line in falling)
                else:
                    self.assert_raises(NoLine, {"line": line}, order.does_fall, ring, lot, line)

    def test_mirrored(self):
        for ring, lot in some_full_lots():
            n, _ = ring
            mirrored = tuple(sorted((n - 1 - b, n - 1 - a) for a, b in lot))
            rising = tuple(sorted((n - 1 - b, n - 1 - a) for a, b in order.falling(ring, lot)))
            self.assertEqual(rising, order.rising(ring, mirrored))

    def test_fathers_and_sons(self):
        for ring in all_rings():
            lots = plain.full_lots(ring)
            sons = {lot: [] for lot in lots}
            for lot in lots:
                step = plain.fathers(ring)[lot]
                if step is None:
                    self.assertIsNone(order.father(ring, lot))
                    self.assertEqual(lots[0], lot)
                else:
                    sons[plain.swapped(lot, *step)].append(lot)
                    self.assertEqual(plain.swapped(lot, *step), order.father(ring, lot))
                    self.assertLess(order.father(ring, lot), lot)
            for lot in lots:
                self.assertEqual(tuple(sorted(sons[lot])), order.sons(ring, lot))

    def test_ways_down(self):
        for ring, lot in some_full_lots():
            steps, last = plain.way_down(ring, lot)
            self.assertEqual(plain.full_lots(ring)[0], last)
            self.assertEqual(tuple(steps), order.way_down(ring, lot))
            self.assertEqual(len(steps), order.how_deep(ring, lot))
            row = [lot]
            for step in steps:
                row.append(plain.swapped(row[-1], *step))
            self.assertEqual(tuple(row), order.fathers_row(ring, lot))

    def test_trees(self):
        for ring in all_rings():
            lots = plain.full_lots(ring)
            under = {lot: [0, 0] for lot in lots}
            for lot in lots:
                row = [lot]
                for step in plain.way_down(ring, lot)[0]:
                    row.append(plain.swapped(row[-1], *step))
                for own in row:
                    under[own][0] += 1
                    under[own][1] = max(under[own][1], len(row) - 1)
            for lot in {*lots[:3], *lots[::7], lots[-1]}:
                self.assertEqual(tuple(under[lot]), order.tree_under(ring, lot))


class Edges(Raising):
    def test_one_full_lot(self):
        for ring in ((3, 1), (5, 2), (39, 19)):
            self.assertEqual(((), ()), (order.least_full(ring), order.greatest_full(ring)))
            self.assertEqual(((), ()), (order.falling(ring, ()), order.rising(ring, ())))
            self.assertIsNone(order.father(ring, ()))
            self.assertEqual(((), ((),), 0, ()), (order.sons(ring, ()), order.fathers_row(ring, ()), order.how_deep(ring, ()), order.way_down(ring, ())))
            self.assertEqual((1, 0), order.tree_under(ring, ()))
            self.assert_raises(NoLine, {"line": (0, 2)}, order.does_fall, ring, (), (0, 2))

    def test_few(self):
        for ring in (MOST, (10, 1), (12, 4)):
            many, deep = order.tree_under(ring, order.least_full(ring))
            self.assertEqual(putting.how_many_full_lots(ring), many)
            self.assertGreater(deep, 0)
            last = order.greatest_full(ring)
            self.assertEqual((1, order.how_deep(ring, last)), order.tree_under(ring, last))
        for ring in (MORE, (39, 18), (11, 1), (10, 2), (40, 1), (40, 18)):
            for lot in (order.least_full(ring), order.greatest_full(ring)):
                self.assert_raises(TooMany, {}, order.tree_under, ring, lot)
            self.assert_raises(Unfit, {}, order.tree_under, ring, ())
            self.assert_raises(Unfit, {}, order.tree_under, ring, order.least_full(ring)[1:])

    def test_what_is_few(self):
        for number in (0, 1, 1999, 2000):
            self.assertIsNone(checks.ask_few(number))
        for number in (2001, 10 ** 9):
            self.assert_raises(TooMany, {}, checks.ask_few, number)
        # the counts that section 18 tells
        told = {(5, 1): 5, (6, 2): 3, (7, 2): 14, (9, 2): 594, (40, 1): 176733862787006701400, (39, 19): 1, (4000, 1999): 2000}
        for ring, many in told.items():
            self.assertEqual(many, putting.how_many_full_lots(ring))
        rings = [(n, k) for n in range(3, 41) for k in range(1, n) if n >= 2 * k + 1]
        self.assertEqual(putting.how_many_full_lots(MOST), max(own for own in map(putting.how_many_full_lots, rings) if own <= 2000))
        self.assertEqual(putting.how_many_full_lots(MORE), min(own for own in map(putting.how_many_full_lots, rings) if own > 2000))

    def test_order_of_errors(self):
        six, first = (6, 2), ((0, 3), (1, 4))
        self.assert_raises(Unfit, {}, order.does_fall, six, first[:1], (2, 5))
        self.assert_raises(Unfit, {}, order.does_fall, six, first, (5, 2))
        self.assert_raises(NoLine, {"line": (0, 2)}, order.does_fall, list(six), list(first), [0, 2])


class GreatRings(Raising):
    def test_all_functions(self):
        for ring in GREAT:
            n, k = ring
            least, last, mixed = great_full_lots(ring)
            self.assertEqual((least, last), (order.least_full(ring), order.greatest_full(ring)))
            self.assertEqual(((), least), (order.falling(ring, least), order.rising(ring, least)))
            self.assertEqual((last, ()), (order.falling(ring, last), order.rising(ring, last)))
            self.assertIsNone(order.father(ring, least))
            for lot in (least, last, mixed):
                falling, rising = order.falling(ring, lot), order.rising(ring, lot)
                self.assertEqual(lot, tuple(sorted(falling + rising)))
                for line in lot[::31]:
                    self.assertIs(order.does_fall(ring, lot, line), line in falling)
                row = order.fathers_row(ring, lot)
                self.assertEqual((lot, least), (row[0], row[-1]))
                self.assertEqual(sorted(row, reverse=True), list(row))
                self.assertEqual(len(row) - 1, order.how_deep(ring, lot))
                for own, step in list(zip(row, order.way_down(ring, lot)))[:3]:
                    self.assertEqual(min(order.falling(ring, own)), step[0])
                for own, far in list(zip(row, row[1:]))[:3]:
                    self.assertEqual(far, order.father(ring, own))
                    self.assertIn(own, order.sons(ring, far))
                for son in order.sons(ring, lot)[:3]:
                    self.assertEqual(lot, order.father(ring, son))


if __name__ == "__main__":
    unittest.main()
