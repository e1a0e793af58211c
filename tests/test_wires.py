"""Wires of full lots, and plain wires with any drawing."""

import unittest
from itertools import combinations

from starsinaring import wires
from starsinaring.errors import CanNot, NoLine, NoStar, Unfit
from tests import plain
from tests.raising import Raising
from tests.rings import GREAT, great_full_lots, some_full_lots

WHOLE = [(3, 1), (4, 1), (5, 1), (5, 2), (6, 1), (6, 2), (7, 2), (7, 3), (8, 3), (9, 3), (9, 4)]


def drawings():
    for ring in WHOLE:
        for drawing in plain.subsets(plain.long_lines(ring)):
            yield ring, drawing
    for n, k in ((8, 2), (7, 1), (8, 1), (9, 2), (10, 3)):
        for drawing in plain.some_subsets(plain.long_lines((n, k)), 200, seed=n):
            yield (n, k), drawing


def rim_comers(ring, orders):
    """The wire that comes to each rim LINE."""
    n, k = ring
    found = {(0, k): 1}
    for run, order in enumerate(orders):
        found[(run + 1, run + 1 + k)] = order[0]
        if run < k:
            found[(run, run + (n - 2 * k) + k)] = order[-1]
    return found


class FullLots(Raising):
    """Each function of a FULL LOT beside plain wires, and the STARS in it."""

    def test_ways(self):
        for ring, lot in some_full_lots():
            n, k = ring
            ties, orders = plain.plain_wires(ring, lot)
            rims = rim_comers(ring, orders)
            self.assertEqual(set(plain.rim_lines(ring)), set(rims))
            way = {wire: [] for wire in range(1, n - 2 * k + 1)}
            for line, wire in rims.items():
                way[wire].append((line, "rim"))
            for line, low, high in ties:
                for wire in (low, high):
                    way[wire].append((line, "touch" if line in lot else "cross"))
            for wire, row in way.items():
                self.assertEqual(tuple(sorted(row)), wires.wire_way(ring, lot, wire))
                for (a, b), (c, d) in zip([line for line, _ in sorted(row)], [line for line, _ in sorted(row)][1:]):
                    self.assertTrue(a <= c and b <= d)

    def test_wires_are_stars(self):
        for ring, lot in some_full_lots():
            n, k = ring
            stars = plain.stars_in(ring, lot)
            self.assertEqual(list(range(k, n - k)), sorted(star[k] for star in stars))
            of_wire = {star[k] - k + 1: star for star in stars}
            for wire, star in of_wire.items():
                self.assertEqual(star, wires.star_of(ring, lot, wire))
                self.assertEqual(wire, wires.wire_of(ring, lot, star))
                way = wires.wire_way(ring, lot, wire)
                self.assertEqual(plain.star_lines(star), tuple(line for line, word in way if word != "cross"))
                self.assertEqual([line in lot for line in plain.star_lines(star)], [word == "touch" for _, word in way if word != "cross"])
                crossed = [line for line, word in way if word == "cross"]
                self.assertEqual(n - 2 * k - 1, len(crossed))
                for far, other in of_wire.items():
                    if other != star:
                        line = wires.cross_line(ring, lot, wire, far)
                        self.assertIn(line, crossed)
                        self.assertTrue(plain.meets(n, line, star, other))
            for star in plain.all_stars(ring)[::3]:
                if star not in stars:
                    self.assert_raises(NoStar, {"star": star}, wires.wire_of, ring, lot, star)

    def test_crossings(self):
        for ring, lot in some_full_lots():
            n, k = ring
            crossed = plain.crossings(ring, lot)
            table = plain.told_crossings(ring, lot)
            self.assertEqual(table, wires.crosses_told(ring, lot))
            self.assertEqual(lot, wires.lot_of_crosses(ring, table))
            for wire in range(1, n - 2 * k + 1):
                self.assert_raises(CanNot, {}, wires.cross_line, ring, lot, wire, wire)
                for far in range(1, n - 2 * k + 1):
                    if wire != far:
                        self.assertEqual(crossed[(wire, far)], wires.cross_line(ring, lot, wire, far))

    def test_lines_and_runs(self):
        for ring, lot in some_full_lots():
            n, k = ring
            ties, orders = plain.plain_wires(ring, lot)
            comers = {line: (min(low, high), max(low, high)) for line, low, high in ties}
            comers.update({line: (wire,) for line, wire in rim_comers(ring, orders).items()})
            for line in plain.all_lines(n):
                if line in comers:
                    self.assertEqual(comers[line], wires.wires_at(ring, lot, line))
                else:
                    self.assertLess(plain.length(n, line), k)
                    self.assert_raises(NoLine, {"line": line}, wires.wires_at, ring, lot, line)
            for run in range(n - k - 1):
                self.assertEqual(orders[run], wires.order_behind(ring, lot, run))
            self.assertEqual(tuple(reversed(range(1, n - 2 * k + 1))), orders[-1])


class AnyDrawing(Raising):
    """Each function of a DRAWING beside plain wires."""

    def test_passes(self):
        for ring, drawing in drawings():
            n, k = ring
            ties, orders = plain.plain_wires(ring, drawing)
            lanes = range(1, n - 2 * k + 1)
            many = {(own, far): 0 for own in lanes for far in lanes}
            for line, low, high in ties:
                if line not in drawing:
                    many[(low, high)] += 1
                    many[(high, low)] += 1
            table = tuple(tuple(many[(own, far)] for far in lanes) for own in lanes)
            self.assertEqual(table, wires.passes(ring, drawing))
            once = all(many[own] == 1 for own in combinations(lanes, 2))
            self.assertIs(wires.all_once(ring, drawing), once)
            self.assertEqual(once, drawing in plain.full_lots(ring))
            self.assertEqual(orders[-1], wires.end_order(ring, drawing))


class Edges(Raising):
    def test_one_wire(self):
        for n, k in ((3, 1), (5, 2), (39, 19)):
            ring, star = (n, k), tuple(range(n))
            way = tuple((line, "rim") for line in plain.star_lines(star))
            self.assertEqual((way, star, 1), (wires.wire_way(ring, (), 1), wires.star_of(ring, (), 1), wires.wire_of(ring, (), star)))
            self.assertEqual((1,), wires.wires_at(ring, (), (0, k)))
            self.assertEqual((1,), wires.order_behind(ring, (), 0))
            self.assertEqual((1,), wires.order_behind(ring, (), n - k - 2))
            self.assertEqual(((None,),), wires.crosses_told(ring, ()))
            self.assertEqual((), wires.lot_of_crosses(ring, ((None,),)))
            self.assertEqual((((0,),), True, (1,)), (wires.passes(ring, ()), wires.all_once(ring, ()), wires.end_order(ring, ())))
            for wire in (0, 2, -1, 10 ** 6):
                self.assert_raises(CanNot, {}, wires.wire_way, ring, (), wire)
                self.assert_raises(CanNot, {}, wires.cross_line, ring, (), 1, wire)
            self.assert_raises(CanNot, {}, wires.cross_line, ring, (), 1, 1)
            for table in ((), ((),), (((0, 1),),), (None,), None, ((None, None),), ((None,), (None,)), ((0,),), ((False,),)):
                self.assert_raises(Unfit, {}, wires.lot_of_crosses, ring, table)

    def test_numbers_that_are_none(self):
        seven, wide = (7, 2), ((0, 3), (1, 5), (2, 5), (3, 6))
        for bad in (0, 4, -1, 10 ** 6):
            for function in (wires.wire_way, wires.star_of):
                self.assert_raises(CanNot, {}, function, seven, wide, bad)
            self.assert_raises(CanNot, {}, wires.cross_line, seven, wide, bad, 1)
            self.assert_raises(CanNot, {}, wires.cross_line, seven, wide, 1, bad)
            self.assert_raises(CanNot, {}, wires.cross_line, seven, wide, bad, bad)
        for bad in (-1, 4, 5, 10 ** 6):
            self.assert_raises(CanNot, {}, wires.order_behind, seven, wide, bad)
        self.assert_raises(Unfit, {}, wires.cross_line, seven, wide, 0, None)
        self.assert_raises(Unfit, {}, wires.order_behind, seven, wide[1:], 9)
        self.assert_raises(Unfit, {}, wires.wire_of, seven, wide[1:], (0, 1, 2, 3, 4))
        self.assert_raises(NoStar, {"star": (0, 1, 2, 3, 4)}, wires.wire_of, seven, wide, [0, 1, 2, 3, 4])
        self.assert_raises(NoLine, {"line": (5, 6)}, wires.wires_at, seven, list(wide), [5, 6])

    def test_tables(self):
        for ring, lot in (((5, 1), ((0, 2), (0, 3))), ((7, 2), ((0, 3), (1, 5), (2, 5), (3, 6))), ((6, 2), ((0, 3), (1, 4)))):
            n, k = ring
            table = plain.told_crossings(ring, lot)
            many = len(table)
            for at in range(many):
                for far in range(many):
                    for value in (None, True, 3, (0, 1), (0, k), (0, n), (n - 1, 0), ((0, 3), (0, 3)), (0,), "", (False, k + 1), lot):
                        if at != far or value is not None:
                            self.assert_raises(Unfit, {}, wires.lot_of_crosses, ring, replaced(table, at, far, value))
                    for line in plain.long_lines(ring):
                        if at == far:
                            self.assert_raises(Unfit, {}, wires.lot_of_crosses, ring, replaced(table, at, far, line))
                        elif line != table[at][far]:
                            self.assert_raises(CanNot, {}, wires.lot_of_crosses, ring, replaced(table, at, far, line))
            for bad in (table[1:], table + table[:1], table[::-1], tuple(row[1:] for row in table), (*table[:-1], table[-1][:-1]),
                        tuple(row + (None,) for row in table), (*table[:-1], None), table[0], lot, None, {}, "", (*table[:-1], (*table[-1], None))):
                self.assert_raises(Unfit, {}, wires.lot_of_crosses, ring, bad)
            # wires in another order: each two cross somewhere, yet no FULL LOT is told
            turned = tuple(row[::-1] for row in table[::-1])
            if turned != table:
                self.assert_raises(CanNot, {}, wires.lot_of_crosses, ring, turned)

    def test_drawings_that_are_no_lots(self):
        self.assertEqual(((0, 2, 2), (2, 0, 1), (2, 1, 0)), wires.passes((5, 1), []))
        self.assertEqual(((0, 0, 0), (0, 0, 0), (0, 0, 0)), wires.passes((5, 1), plain.long_lines((5, 1))))
        self.assertEqual((1, 2, 3), wires.end_order((5, 1), plain.long_lines((5, 1))))
        self.assertIs(wires.all_once((5, 1), ((0, 2), (1, 3))), False)
        for function in (wires.passes, wires.all_once, wires.end_order):
            self.assert_raises(Unfit, {}, function, (5, 1), ((0, 1),))
        for function in (wires.crosses_told,):
            for drawing in ((), ((0, 2), (1, 3)), ((0, 2),)):
                self.assert_raises(Unfit, {}, function, (5, 1), drawing)


def replaced(table, at, far, value):
    """table with another value at one place."""
    row = table[at][:far] + (value,) + table[at][far + 1:]
    return table[:at] + (row,) + table[at + 1:]


class GreatRings(Raising):
    def test_all_functions(self):
        for ring in GREAT:
            n, k = ring
            top = n - 2 * k
            for full in great_full_lots(ring):
                table = wires.crosses_told(ring, full)
                self.assertEqual(plain.told_crossings(ring, full), table)
                self.assertEqual(full, wires.lot_of_crosses(ring, table))
                self.assertEqual(tuple(reversed(range(1, top + 1))), wires.end_order(ring, full))
                self.assertEqual(tuple(reversed(range(1, top + 1))), wires.order_behind(ring, full, n - k - 2))
                self.assertIs(wires.all_once(ring, full), True)
                self.assertEqual(tuple(tuple(int(own != far) for far in range(top)) for own in range(top)), wires.passes(ring, full))
                for wire in {1, top // 2 + 1, top}:
                    star = wires.star_of(ring, full, wire)
                    self.assertEqual((k + wire - 1, wire), (star[k], wires.wire_of(ring, full, star)))
                    way = wires.wire_way(ring, full, wire)
                    self.assertEqual(2 * k + 1 + top - 1, len(way))
                    self.assertEqual(plain.star_lines(star), tuple(line for line, word in way if word != "cross"))
                    for line, _ in way[::11]:
                        self.assertIn(wire, wires.wires_at(ring, full, line))
                    if wire > 1:
                        self.assertEqual(table[wire - 1][0], wires.cross_line(ring, full, 1, wire))
            long = tuple((a, b) for a in range(n) for b in range(a + 1, n) if k < b - a < n - k)
            for drawing in ((), long, long[::2]):
                ties, orders = plain.plain_wires(ring, drawing)
                self.assertEqual(orders[-1], wires.end_order(ring, drawing))
                self.assertEqual(2 * (len(long) - len(drawing)), sum(sum(row) for row in wires.passes(ring, drawing)))


if __name__ == "__main__":
    unittest.main()
