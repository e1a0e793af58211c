"""Fields: lines from near points to far ones, and their longest rows."""

import unittest
from itertools import combinations
from random import Random

from starsinaring import fields
from starsinaring.errors import CanNot, Unfit
from tests import plain
from tests.raising import Raising
from tests.rings import GREAT, great_full_lots
from tests.wrong import nested

WHOLE = [(3, 1), (4, 1), (5, 1), (5, 2), (6, 1), (6, 2), (7, 2), (7, 3), (8, 3), (9, 4)]
SOME = [(8, 2, 90), (7, 1, 90), (8, 1, 60), (9, 2, 40), (9, 3, 60), (10, 3, 20)]


def drawings():
    """RINGS and DRAWINGS of them: all, or some."""
    found = [(ring, drawing) for ring in WHOLE for drawing in plain.subsets(plain.long_lines(ring))]
    for n, k, many in SOME:
        long = plain.long_lines((n, k))
        found += [((n, k), drawing) for drawing in plain.some_subsets(long, many, seed=n) + [(), long]]
    return found


def fields_in(ring):
    return range(1, ring[0] - 2 * ring[1])


def is_row(ring, drawing, field, row):
    grows = all(a < c and b < d for (a, b), (c, d) in zip(row, row[1:]))
    return grows and all(plain.is_usable(ring, drawing, field, line) for line in row)


class SmallRings(Raising):
    """Each function beside a plain search."""

    def test_points_and_lines(self):
        for ring in [ring for ring in WHOLE] + [(9, 2), (10, 3)]:
            n, k = ring
            for field in fields_in(ring):
                near = tuple(range(0, k + field))
                self.assertEqual(near, fields.near_points(ring, field))
                self.assertEqual(tuple(own for own in range(n) if own not in near), fields.far_points(ring, field))
            for a, b in plain.all_lines(n):
                own = tuple(field for field in fields_in(ring) if a in range(k + field) and b not in range(k + field))
                self.assertEqual(own, fields.fields_of(ring, (a, b)))

    def test_tables(self):
        for ring, drawing in drawings()[::3]:
            n, k = ring
            for field in fields_in(ring):
                near, far = range(k + field), range(k + field, n)
                table = tuple(tuple(plain.longest_within(ring, drawing, field, a, b) for b in far) for a in near)
                self.assertEqual(table, fields.row_table(ring, drawing, field))
                up_to_near = [0] + [plain.longest_within(ring, drawing, field, a, n) for a in near]
                up_to_far = [0] + [plain.longest_within(ring, drawing, field, n, b) for b in far]
                self.assertEqual(tuple(a for a in near if up_to_near[a + 1] == up_to_near[a] + 1), fields.near_growth(ring, drawing, field))
                grown = tuple(b for at, b in enumerate(far) if up_to_far[at + 1] == up_to_far[at] + 1)
                self.assertEqual(grown, fields.far_growth(ring, drawing, field))
                self.assertEqual(len(grown), len(fields.near_growth(ring, drawing, field)))

    def test_longest_rows(self):
        for ring, drawing in drawings():
            n, k = ring
            more = []
            for field in fields_in(ring):
                most = plain.longest_row(ring, drawing, field)
                self.assertEqual(most, fields.longest_row(ring, drawing, field))
                row = fields.a_longest(ring, drawing, field)
                self.assertIsInstance(row, tuple)
                self.assertEqual(most, len(row))
                self.assertTrue(is_row(ring, drawing, field, row))
                self.assertIs(fields.is_longest(ring, drawing, field, row), True)
                self.assertIs(fields.is_longest(ring, drawing, field, row[1:]), False)
                self.assertGreaterEqual(most, k)
                if most > k:
                    self.assertLessEqual(set(row), set(drawing))
                    self.assertTrue(plain.is_crossing_set(plain.cross_table(n), row))
                more.append(most - k)
            self.assertEqual(tuple(more), fields.more_than_k(ring, drawing))
            wide = tuple(field for field, own in zip(fields_in(ring), more) if own > 0)
            self.assertEqual(wide, fields.wide_fields(ring, drawing))

    def test_what_rows_tell(self):
        for ring, drawing in drawings():
            n, k = ring
            table = plain.cross_table(n)
            more = fields.more_than_k(ring, drawing)
            self.assertEqual(not any(more), drawing in plain.all_lots(ring))
            for field, own in zip(fields_in(ring), more):
                last = plain.low_lanes(ring, drawing, field)[-1]
                self.assertEqual(own, len([lane for lane in last if lane <= n - 2 * k - field]))
            most = plain.greatest(table, drawing)
            if most > k:
                self.assertEqual(most - k, max(more))

    def test_is_row(self):
        source = Random(17)
        for ring in [(5, 1), (6, 1), (6, 2), (7, 2), (8, 3)]:
            lines = plain.all_lines(ring[0])
            told = plain.some_subsets(plain.long_lines(ring), 12, seed=4)
            for drawing in told:
                for field in fields_in(ring):
                    usable = [line for line in lines if plain.is_usable(ring, drawing, field, line)]
                    most = plain.longest_row(ring, drawing, field)
                    rows = [own for size in (0, 1, 2) for own in combinations(lines, size)]
                    rows += [row for size in (2, 3, 4) for row in combinations(usable, size)]
                    rows += [row[::-1] for row in combinations(usable, 2)]
                    for row in source.sample(rows, min(len(rows), 200)):
                        good = is_row(ring, drawing, field, row)
                        self.assertIs(fields.is_row(ring, drawing, field, row), good)
                        self.assertIs(fields.is_longest(ring, drawing, field, row), good and len(row) == most)


class Edges(Raising):
    def test_no_field(self):
        for ring in ((3, 1), (5, 2), (39, 19)):
            self.assertEqual(((), ()), (fields.wide_fields(ring, ()), fields.more_than_k(ring, ())))
            self.assertEqual((), fields.fields_of(ring, (0, 1)))
            for field in (0, 1, 2, -1, 10 ** 6):
                self.assert_raises(CanNot, {}, fields.near_points, ring, field)
                self.assert_raises(CanNot, {}, fields.longest_row, ring, (), field)
                self.assert_raises(CanNot, {}, fields.is_row, ring, (), field, ())

    def test_fields_that_are_none(self):
        ring, drawing = (7, 2), ((0, 3), (1, 4), (2, 5))
        for bad in (0, 3, -1, 10 ** 6, -10 ** 6):
            for function in (fields.near_points, fields.far_points):
                self.assert_raises(CanNot, {}, function, ring, bad)
            for function in (fields.longest_row, fields.a_longest, fields.row_table, fields.near_growth, fields.far_growth):
                self.assert_raises(CanNot, {}, function, ring, drawing, bad)
                self.assert_raises(Unfit, {}, function, ring, drawing[::-1], bad)
            for function in (fields.is_row, fields.is_longest):
                self.assert_raises(CanNot, {}, function, ring, drawing, bad, ())
                self.assert_raises(CanNot, {}, function, ring, drawing, bad, None)
        for bad in (None, True, "1", 1.0, (1,)):
            self.assert_raises(Unfit, {}, fields.near_points, ring, bad)
            self.assert_raises(Unfit, {}, fields.is_longest, ring, drawing, bad, ())

    def test_drawings(self):
        for ring in ((6, 1), (7, 2), (9, 3), (40, 13)):
            n, k = ring
            long = tuple((a, b) for a in range(n) for b in range(a + 1, n) if k < b - a < n - k)
            self.assertEqual((0,) * (n - 2 * k - 1), fields.more_than_k(ring, ()))
            self.assertEqual((), fields.wide_fields(ring, ()))
            more = tuple(min(field, n - 2 * k - field) for field in fields_in(ring))
            self.assertEqual(more, fields.more_than_k(ring, long))
            self.assertEqual(tuple(fields_in(ring)), fields.wide_fields(ring, long))

    def test_things(self):
        ring, drawing = (7, 2), ((0, 3), (1, 4), (2, 5))
        for thing in ([(0, 3)], ([0, 3],), ((False, 3),), ((0, 3.0),), ((0, 3), None), ((0, 3), (0, 3)), ((1, 4), (0, 3)), None, 5, "ab",
                      ((0, 7),), ((0, 4),), ((3, 0),), (0, 3), nested(20, 0), nested(19, (0, 3)), ((0, 3, 4),), ((0, 1),), ((3, 4),), {},
                      ((0, 3),) * 9, ((0, 3), (1, 3)), ((0, 3), (0, 5))):
            self.assertIs(fields.is_row(ring, drawing, 1, thing), False, thing)
            self.assertIs(fields.is_longest(ring, drawing, 1, thing), False, thing)
        for thing in ((), ((0, 3),), ((0, 3), (1, 4)), ((0, 6),), ((0, 3), (1, 6)), ((0, 5),), ((2, 3),)):
            self.assertIs(fields.is_row(ring, drawing, 1, thing), True, thing)
            self.assertIs(fields.is_longest(ring, drawing, 1, thing), False, thing)
        self.assertIs(fields.is_longest(ring, drawing, 1, drawing), True)


class GreatRings(Raising):
    def test_all_functions(self):
        for ring in GREAT:
            n, k = ring
            long = tuple((a, b) for a in range(n) for b in range(a + 1, n) if k < b - a < n - k)
            for drawing in (*great_full_lots(ring), long[::2], long):
                more = fields.more_than_k(ring, drawing)
                self.assertEqual(n - 2 * k - 1, len(more))
                if drawing in great_full_lots(ring):
                    self.assertFalse(any(more))
                self.assertEqual(tuple(at + 1 for at, own in enumerate(more) if own), fields.wide_fields(ring, drawing))
                for field in {1, (n - 2 * k) // 2, n - 2 * k - 1} & set(fields_in(ring)):
                    row = fields.a_longest(ring, drawing, field)
                    self.assertEqual(k + more[field - 1], len(row))
                    self.assertEqual(len(row), fields.longest_row(ring, drawing, field))
                    self.assertIs(fields.is_row(ring, drawing, field, row), True)
                    self.assertIs(fields.is_longest(ring, drawing, field, row), True)
                    table = fields.row_table(ring, drawing, field)
                    near, far = fields.near_points(ring, field), fields.far_points(ring, field)
                    self.assertEqual((len(near), {len(far)}), (len(table), {len(own) for own in table}))
                    self.assertEqual(len(row), table[-1][-1])
                    self.assertEqual(len(row), len(fields.near_growth(ring, drawing, field)))
                    self.assertEqual(len(row), len(fields.far_growth(ring, drawing, field)))
                    for line in row:
                        self.assertIn(field, fields.fields_of(ring, line))


if __name__ == "__main__":
    unittest.main()
