"""Full lots that have told lines, or have none of them."""

import unittest
from itertools import product
from math import comb

from starsinaring import counts, exchange, filling, gaps, lots, order
from starsinaring.errors import CanNot, TooMany, Unfit
from tests import plain
from tests.raising import Raising
from tests.rings import FURTHER_FULL, GREAT, NARROW, SMALL, great_full_lots, some_lots

RINGS = SMALL + [(n, k) for n, k, _ in FURTHER_FULL]
# rings of few long LINES: each of these in, out or neither
ALL_SIDES = [(3, 1), (4, 1), (5, 1), (5, 2), (6, 2), (7, 2), (8, 3)]
SIDED = (gaps.can_be, gaps.some_with, gaps.always_lines, gaps.never_lines)


def all_sides(ring):
    """All pairs of two DRAWINGS without a LINE in common."""
    long = plain.long_lines(ring)
    for signs in product((0, 1, 2), repeat=len(long)):
        yield tuple(tuple(line for line, sign in zip(long, signs) if sign == own) for own in (1, 2))


def some_sides(ring, many):
    """Pairs of DRAWINGS, most of them with few LINES, some with a LINE in common."""
    long = plain.long_lines(ring)
    some = plain.some_subsets(long, many, ring[0]) + plain.some_subsets(long, many, ring[1])
    found = [(own[:3], far[-4:]) for own, far in zip(some, reversed(some))] + [((), own) for own in some] + [(own[::3], ()) for own in some]
    return found + [((), ()), (long, ()), ((), long), (long[:1], long[:1]), (long, long)]


def least_block(ring, drawing):
    """As the document says it, by plain search."""
    left = list(drawing)
    for line in reversed(drawing):
        rest = [own for own in left if own != line]
        if all(set(rest) & set(lot) for lot in plain.full_lots(ring)):
            left = rest
    return tuple(left)


class WithALot(Raising):
    """Each function beside a plain search over all FULL LOTS that have a LOT."""

    def test_least_and_greatest(self):
        for ring, lot in some_lots():
            found = plain.full_with(ring, lot)
            self.assertEqual((found[0], found[-1]), (gaps.least_with(ring, lot), gaps.greatest_with(ring, lot)))

    def test_all(self):
        for ring, lot in some_lots():
            self.assertEqual(plain.full_with(ring, lot), gaps.all_with(ring, lot))

    def test_just_one_rises_and_just_one_falls_throughout(self):
        for ring, lot in some_lots()[::7]:
            rise, fall = [], []
            for full in plain.full_with(ring, lot):
                pairs = [(gone, come) for gone, come in plain.exchanges(ring)[full] if gone not in lot]
                rise += [full] if all(gone < come for gone, come in pairs) else []
                fall += [full] if all(gone > come for gone, come in pairs) else []
            self.assertEqual(([gaps.least_with(ring, lot)], [gaps.greatest_with(ring, lot)]), (rise, fall))

    def test_sizes(self):
        for ring in [ring for ring in SMALL if len(plain.all_lots(ring)) < 700] + [(9, 3)]:
            step = 1 if len(plain.all_lots(ring)) < 200 else 29
            for lot in plain.all_lots(ring)[::step]:
                sizes = [len(own) - len(lot) for own in plain.all_lots(ring) if set(lot) <= set(own)]
                told = gaps.sizes_with(ring, lot)
                self.assertEqual(tuple(sizes.count(own) for own in range(max(sizes) + 1)), told)
                self.assertEqual(filling.lines_short(ring, lot) + 1, len(told))
                if len(told) > 1:
                    self.assertIn(sum(told[::2]) - sum(told[1::2]), (1, -1))

    def test_joined(self):
        for ring, lot in some_lots()[::5]:
            found = plain.full_with(ring, lot)
            for full in found[:3] + found[::31] + found[-2:]:
                for other in (found[0], found[-1], found[len(found) // 2], full):
                    row = gaps.joined_with(ring, lot, full, other)
                    self.assertEqual(full == other, row == ())
                    self.assertIs(gaps.is_joined_with(ring, lot, full, other, row), True)
                    for gone, come in row:
                        self.assertNotIn(gone, lot)
                        self.assertIn((gone, come), plain.exchanges(ring)[full])
                        full = plain.swapped(full, gone, come)
                    self.assertEqual(other, full)

    def test_no_line_out_of_a_lot_is_in_all(self):
        for ring, lot in some_lots()[::11]:
            found = plain.full_with(ring, lot)
            self.assertEqual(set(lot), set(found[0]).intersection(*[set(own) for own in found]))


class Joined(Raising):
    def test_rows_that_are_none(self):
        seven, lot = (7, 2), ((0, 3), (2, 5))
        last, least = gaps.greatest_with(seven, lot), gaps.least_with(seven, lot)
        good = (((3, 6), (0, 4)), ((2, 6), (1, 5)))
        back = tuple((come, gone) for gone, come in good[::-1])
        self.assertIs(gaps.is_joined_with(seven, lot, last, least, good), True)
        self.assertIs(gaps.is_joined_with(seven, lot, least, last, back), True)
        self.assertIs(gaps.is_joined_with(seven, lot, last, last, good + back), True)
        self.assertIs(gaps.is_joined_with(seven, lot, last, last, (good + back) * 20), True)
        self.assertIs(gaps.is_joined_with(seven, lot, last, last, ()), True)
        self.assertIs(gaps.is_joined_with(seven, lot, last, least, good[::-1]), True)
        for thing in ((((2, 6), (0, 4)), ((3, 6), (1, 5))), good[:1], good[1:], good + good[1:], (), list(good), None, True, good[0], (list(good[0]), good[1]), (good,),
                      (good[0], (list(good[1][0]), good[1][1])), (good[0] + good[1],), (good[0], ((2, 6), (1, 5), (0, 3))), (good[0], None),
                      (good[0], ((2, 6), (1, True))), ((0, 3), (0, 4)), "ab", back, good + back, (good[0], good[0]), (good[0], ((2, 6), (5, 1)))):
            self.assertIs(gaps.is_joined_with(seven, lot, last, least, thing), False, thing)
        self.assertIs(gaps.is_joined_with(seven, lot, last, last, []), False)

    def test_rows_that_take_a_line_of_the_lot_away(self):
        for ring in [(5, 1), (7, 2), (8, 3), (8, 1)]:
            for full in plain.full_lots(ring)[::3]:
                for gone, come in plain.exchanges(ring)[full]:
                    other = plain.swapped(full, gone, come)
                    rest = tuple(line for line in full if line != gone)
                    there_and_back = ((gone, come), (come, gone))
                    self.assertIs(gaps.is_joined_with(ring, rest, full, other, there_and_back[:1]), True)
                    self.assertIs(gaps.is_joined_with(ring, rest, full, full, there_and_back), True)
                    self.assertIs(gaps.is_joined_with(ring, (gone,), full, full, there_and_back), False)
                    self.assertIs(gaps.is_joined_with(ring, full, full, full, there_and_back), False)
                    self.assertIs(gaps.is_joined_with(ring, full, full, full, ()), True)
                    self.assertIs(exchange.is_exchange_row(ring, full, full, there_and_back), True)

    def test_full_lots_without_a_line_of_the_lot(self):
        seven, lot = (7, 2), ((0, 3), (2, 5))
        for full in plain.full_lots(seven):
            good = set(lot) <= set(full)
            for first, second in ((full, gaps.least_with(seven, lot)), (gaps.least_with(seven, lot), full)):
                if good:
                    self.assertIs(gaps.is_joined_with(seven, lot, first, second, gaps.joined_with(seven, lot, first, second)), True)
                else:
                    self.assert_raises(Unfit, {}, gaps.joined_with, seven, lot, first, second)
                    self.assert_raises(Unfit, {}, gaps.is_joined_with, seven, lot, first, second, ())


class InAndOut(Raising):
    """Each function beside a plain search over all FULL LOTS with these LINES and without those."""

    def one_pair(self, ring, inside, outside):
        found = plain.full_with(ring, inside, outside)
        self.assertIs(gaps.can_be(ring, inside, outside), bool(found))
        if not found:
            for function in SIDED[1:]:
                self.assert_raises(CanNot, {}, function, ring, inside, outside)
            return
        self.assertEqual(found[0], gaps.some_with(ring, inside, outside))
        every = set(found[0]).intersection(*[set(own) for own in found])
        some = set().union(*[set(own) for own in found])
        self.assertEqual(tuple(sorted(every)), gaps.always_lines(ring, inside, outside))
        self.assertEqual(tuple(sorted(set(plain.long_lines(ring)) - some)), gaps.never_lines(ring, inside, outside))

    def test_all_sides(self):
        for ring in ALL_SIDES:
            for inside, outside in list(all_sides(ring))[::1 if ring[0] < 7 else 4]:
                self.one_pair(ring, inside, outside)

    def test_some_sides(self):
        for ring in RINGS:
            for inside, outside in some_sides(ring, 12):
                self.one_pair(ring, inside, outside)

    def test_blocks(self):
        for ring in RINGS:
            long = plain.long_lines(ring)
            drawings = plain.subsets(long) if len(long) < 8 else plain.some_subsets(long, 60, 3) + [long[at:] for at in range(len(long))]
            for drawing in drawings:
                block = all(set(drawing) & set(lot) for lot in plain.full_lots(ring))
                self.assertIs(gaps.is_block(ring, drawing), block)
                if block:
                    self.assertEqual(least_block(ring, drawing), gaps.least_block(ring, drawing))
                else:
                    self.assert_raises(CanNot, {}, gaps.least_block, ring, drawing)


class Edges(Raising):
    def test_one_full_lot(self):
        for ring in ((3, 1), (5, 2), (39, 19)):
            self.assertEqual(((), (), [()], (1,)), (*[own(ring, ()) for own in (gaps.least_with, gaps.greatest_with, gaps.all_with, gaps.sizes_with)],))
            self.assertEqual((), gaps.joined_with(ring, (), (), ()))
            self.assertIs(gaps.is_joined_with(ring, (), (), (), ()), True)
            self.assertIs(gaps.is_joined_with(ring, (), (), (), (((0, 1), (0, 2)),)), False)
            self.assertEqual((True, (), (), ()), (*[own(ring, (), ()) for own in SIDED],))
            self.assertIs(gaps.is_block(ring, ()), False)
            self.assert_raises(CanNot, {}, gaps.least_block, ring, ())

    def test_a_point_more(self):
        for n, k in ((4, 1), (6, 2), (8, 3), (40, 19)):
            halves = tuple((a, a + n // 2) for a in range(n // 2))
            self.assertEqual((halves[:-1], halves[1:]), (gaps.least_with((n, k), ()), gaps.greatest_with((n, k), ())))
            self.assertEqual((halves[:-1], halves[1:]), (gaps.least_with((n, k), halves[1:2]) if k > 1 else halves[:-1], gaps.greatest_with((n, k), halves[-1:])))
            self.assertEqual([halves[:at] + halves[at + 1:] for at in reversed(range(k + 1))], gaps.all_with((n, k), ()))
            self.assertEqual(tuple(comb(k + 1, own) for own in range(k + 1)), gaps.sizes_with((n, k), ()))
            self.assertEqual(halves[1:], gaps.always_lines((n, k), (), halves[:1]))
            self.assertEqual(halves[-1:], gaps.never_lines((n, k), halves[:-1], ()))
            self.assertEqual(halves[:2], gaps.least_block((n, k), halves))
            self.assertIs(gaps.is_block((n, k), halves[:1]), False)

    def test_full_lots_themselves(self):
        for ring in RINGS:
            for lot in plain.full_lots(ring)[::37]:
                self.assertEqual((lot, lot, [lot], (1,)), (gaps.least_with(ring, lot), gaps.greatest_with(ring, lot), gaps.all_with(ring, lot), gaps.sizes_with(ring, lot)))
                self.assertEqual((True, lot, lot), (gaps.can_be(ring, lot, ()), gaps.some_with(ring, lot, ()), gaps.always_lines(ring, lot, ())))
                self.assertEqual((), gaps.joined_with(ring, lot, lot, lot))

    def test_lines_in_common(self):
        for ring in ((5, 1), (7, 2), (8, 1), (40, 17)):
            long = plain.long_lines(ring)
            for line in long[::5]:
                for outside in ((line,), long, tuple(sorted({line, long[0]}))):
                    self.assertIs(gaps.can_be(ring, (line,), outside), False)
                    for function in SIDED[1:]:
                        self.assert_raises(CanNot, {}, function, ring, (line,), outside)

    def test_few(self):
        for ring in ((35, 16), (10, 1), (12, 4)):
            many = counts.how_many_full(ring)
            self.assertEqual(many, len(gaps.all_with(ring, ())))
            self.assertEqual((1, many), gaps.sizes_with(ring, ())[::len(gaps.sizes_with(ring, ())) - 1])
        for ring in ((37, 17), (11, 1), (10, 2), (40, 1), (40, 16), (40, 9)):
            self.assert_raises(TooMany, {}, gaps.all_with, ring, ())
            self.assert_raises(TooMany, {}, gaps.sizes_with, ring, ())
            lot = order.least_full(ring)
            self.assertEqual([lot], gaps.all_with(ring, lot))
            self.assertEqual((1, 2), gaps.sizes_with(ring, lot[1:]))

    def test_just_as_many_as_are_few(self):
        ring = (12, 3)
        for lot, many in ((((0, 6), (1, 6), (2, 9), (3, 7), (3, 9)), 1999), (((0, 6), (3, 10), (5, 11)), 2000)):
            found = gaps.all_with(ring, lot)
            self.assertEqual((many, many), (len(found), counts.how_many_with(ring, lot, ())))
            self.assertEqual(many, gaps.sizes_with(ring, lot)[-1])
            self.assertTrue(all(set(lot) <= set(own) for own in found))
        lot = ((0, 4), (1, 5), (2, 10), (3, 8), (6, 10))
        self.assertEqual(2001, counts.how_many_with(ring, lot, ()))
        self.assert_raises(TooMany, {}, gaps.all_with, ring, lot)
        self.assert_raises(TooMany, {}, gaps.sizes_with, ring, lot)

    def test_polygons_that_are_left(self):
        # with k 1 a LOT cuts a polygon into lesser ones: there are as many FULL LOTS with it as ways to cut these
        ring = (40, 1)
        for sizes in ((4,), (5,), (4, 4), (6, 4, 5), (5, 5, 5), (10,), (6, 6, 5, 4, 4), (6, 7, 4, 4, 4), (11,)):
            lot = self.with_polygons(ring, sizes)
            many = 1
            for size in sizes:
                many *= counts.how_many_full((size, 1))
            if many > 2000:
                self.assert_raises(TooMany, {}, gaps.all_with, ring, lot)
                self.assert_raises(TooMany, {}, gaps.sizes_with, ring, lot)
            else:
                self.assertEqual((many, many), (len(gaps.all_with(ring, lot)), gaps.sizes_with(ring, lot)[-1]))

    def with_polygons(self, ring, sizes):
        """A LOT that leaves, beside triangles, polygons of so many points."""
        fan = order.least_full(ring)
        at, gone = 0, []
        for size in sizes:
            gone += fan[at:at + size - 3]
            at += size - 2
        return tuple(line for line in fan if line not in gone)

    def test_lanes(self):
        for ring in ((8, 1), (10, 2), (40, 17)):
            least, long = order.least_full(ring), plain.long_lines(ring)
            self.assertEqual((True, least, ()), (gaps.can_be(ring, (), ()), gaps.some_with(ring, (), ()), gaps.always_lines(ring, (), ())))
            self.assertEqual((), gaps.never_lines(ring, (), ()))
            self.assertIs(gaps.is_block(ring, long), True)
            left = gaps.least_block(ring, long)
            self.assertIs(gaps.is_block(ring, left), True)
            self.assertFalse(any(gaps.is_block(ring, left[:at] + left[at + 1:]) for at in range(len(left))))
        for ring in ((9, 1), (11, 2), (39, 16), (40, 1)):
            least, long = order.least_full(ring), plain.long_lines(ring)
            for inside, outside in (((), ()), (least, ()), ((), least), (least[:1], least[:1]), (long, ()), ((), long)):
                for function in SIDED:
                    self.assert_raises(TooMany, {}, function, ring, inside, outside)
            for drawing in ((), least, long):
                self.assert_raises(TooMany, {}, gaps.is_block, ring, drawing)
                self.assert_raises(TooMany, {}, gaps.least_block, ring, drawing)
            for function in SIDED:
                self.assert_raises(Unfit, {}, function, ring, ((0, 1),), ())
                self.assert_raises(Unfit, {}, function, ring, (), least[::-1])
            self.assert_raises(Unfit, {}, gaps.is_block, ring, least[::-1])
            self.assert_raises(Unfit, {}, gaps.least_block, ring, ((0, 1),))

    def test_what_is_no_lot(self):
        six, halves = (6, 2), ((0, 3), (1, 4), (2, 5))
        for lot in (halves, ((0, 2),), ((1, 4), (0, 3)), ((0, 3), (0, 3)), None, 5, ((0, True),)):
            for function in (gaps.least_with, gaps.greatest_with, gaps.all_with, gaps.sizes_with):
                self.assert_raises(Unfit, {}, function, six, lot)
            self.assert_raises(Unfit, {}, gaps.joined_with, six, lot, halves[:2], halves[:2])
            self.assert_raises(Unfit, {}, gaps.is_joined_with, six, lot, halves[:2], halves[:2], ())
        self.assertIs(gaps.can_be(six, halves, ()), False)
        self.assert_raises(CanNot, {}, gaps.some_with, six, halves, ())


class GreatRings(Raising):
    def test_with_a_lot(self):
        for ring in GREAT:
            for full in great_full_lots(ring):
                for lot in (full, full[::2], full[3:], full[:1], ()):
                    least, last = gaps.least_with(ring, lot), gaps.greatest_with(ring, lot)
                    for own, moved in ((least, order.falling), (last, order.rising)):
                        self.assertIs(filling.is_full(ring, own), True)
                        self.assertLessEqual(set(lot), set(own))
                        self.assertLessEqual(set(moved(ring, own)), set(lot))
                    self.assertLessEqual(least, full)
                    self.assertLessEqual(full, last)
                found = gaps.all_with(ring, full[3:])
                self.assertIn(full, found)
                self.assertEqual(sorted(set(found)), found)
                sizes = gaps.sizes_with(ring, full[3:])
                self.assertEqual((1, len(lots.can_come(ring, full[3:]))) if len(sizes) > 2 else sizes[:2], sizes[:2])
                self.assertEqual(len(found), sizes[-1])
                row = gaps.joined_with(ring, full[3:], full, found[0])
                self.assertEqual(found[0], exchange.led_by(ring, full, row))
                self.assertIs(gaps.is_joined_with(ring, full[3:], full, found[0], row), True)

    def test_joined_from_least_to_greatest(self):
        for ring in GREAT:
            for full in great_full_lots(ring):
                lot = full[::4]
                least, last = gaps.least_with(ring, lot), gaps.greatest_with(ring, lot)
                row = gaps.joined_with(ring, lot, last, least)
                self.assertIs(gaps.is_joined_with(ring, lot, last, least, row), True)
                self.assertFalse(set(lot) & {gone for gone, _ in row})

    def test_narrow_rings(self):
        for ring in NARROW:
            for full in great_full_lots(ring):
                inside, outside = full[::3], tuple(line for line in plain.long_lines(ring) if line not in full)[::3]
                self.assertIs(gaps.can_be(ring, inside, outside), True)
                own = gaps.some_with(ring, inside, outside)
                self.assertTrue(set(inside) <= set(own) and not set(outside) & set(own) and own <= full)
                self.assertLessEqual(set(inside), set(gaps.always_lines(ring, inside, outside)))
                self.assertLessEqual(set(outside), set(gaps.never_lines(ring, inside, outside)))
                self.assertLessEqual(set(gaps.always_lines(ring, inside, outside)), set(full))
                self.assertFalse(set(gaps.never_lines(ring, inside, outside)) & set(full))
                self.assertIs(gaps.is_block(ring, outside), False)
                self.assertEqual(full, gaps.always_lines(ring, full, ()))


if __name__ == "__main__":
    unittest.main()
