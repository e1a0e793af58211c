"""A point less, a point more."""

import unittest
from itertools import product
from random import Random

from starsinaring import corners, counts, filling, flat, order
from starsinaring.errors import CanNot, NoLine, NoPoint, TooMany, Unfit
from tests import plain
from tests.raising import Raising
from tests.rings import FURTHER_FULL, GREAT, SMALL, great_full_lots, some_full_lots

RINGS = SMALL + [(n, k) for n, k, _ in FURTHER_FULL]


def where_lines_go(ring, lot, point):
    """The LINE to which each LINE of lot goes, and the ENDS, by the words of the document."""
    n, k = ring
    anew = {(point + step) % n: step for step in range(n)}
    star = [own for own in plain.stars_in(ring, lot) if all((point + step) % n in own for step in range(k + 1))]
    assert len(star) == 1
    q = dict(enumerate(sorted(anew[own] for own in star[0])[k + 1:], start=1))
    # what comes has the points y_1 to y_k, then all behind p_k
    names = [("y", i) for i in range(1, k + 1)] + list(range(k + 1, n))
    goes = {}
    for line in lot:
        i, x = sorted(anew[own] for own in line)
        if i > k:
            first = i
        elif i >= 1 and x <= q[i]:
            first = ("y", i)
        else:
            assert x >= q[i + 1]
            first = ("y", i + 1)
        goes[line] = plain.line_of(names.index(first), names.index(x))
    return goes, tuple(names.index(q[i]) for i in range(1, k + 1))


def flattened(ring, lot, point):
    n, k = ring
    goes, ends = where_lines_go(ring, lot, point)
    return tuple(sorted({line for line in goes.values() if plain.length(n - 1, line) > k})), ends


def all_ends(ring, lot, point):
    """All ENDS at point, ascending, by all choices of far points."""
    n, k = ring
    side = plain.sides(ring, lot)
    first_ones = [(point + step) % n for step in range(k)]
    far = [[x for x in range(n) if x != y and plain.line_of(x, y) in side] for y in first_ones]
    found = []
    for ends in product(*far):
        lines = [plain.line_of(x, y) for x, y in zip(ends, first_ones)]
        if all(plain.crosses(n, line, other) for at, line in enumerate(lines) for other in lines[:at]):
            found.append(ends)
    return found


class SmallRings(Raising):
    """Each function beside a plain search."""

    def test_flattened(self):
        for ring, lot in some_full_lots():
            n, k = ring
            for point in range(n):
                if n == 2 * k + 1:
                    self.assert_raises(CanNot, {}, flat.flattened, ring, lot, point)
                    continue
                told = flattened(ring, lot, point)
                self.assertEqual(told, flat.flattened(ring, lot, point))
                self.assertIn(told[0], plain.full_lots((n - 1, k)))
                self.assertIn(told[1], all_ends((n - 1, k), told[0], 0))

    def test_where_lines_go(self):
        for ring, lot in some_full_lots():
            for point in range(ring[0]):
                goes = where_lines_go(ring, lot, point)[0]
                for line in plain.all_lines(ring[0]):
                    if line in goes:
                        self.assertEqual(goes[line], flat.flat_line(ring, lot, point, line))
                    else:
                        self.assert_raises(NoLine, {"line": line}, flat.flat_line, ring, lot, point, line)

    def test_lines_stay_unlike(self):
        for ring, lot in some_full_lots():
            n, k = ring
            for point in range(n):
                struck = [own for own in plain.stars_in(ring, lot) if all((point + step) % n in own for step in range(k + 1))][0]
                rest = [line for line in lot if line not in plain.star_lines(struck)]
                self.assertEqual(len(rest), len({flat.flat_line(ring, lot, point, line) for line in rest}))

    def test_one_to_one(self):
        for n, k in RINGS:
            more = set()
            for lot in plain.full_lots((n, k)):
                for ends in all_ends((n, k), lot, 0):
                    own = flat.blown_up((n, k), lot, ends)
                    self.assertNotIn(own, more)
                    more.add(own)
                    self.assertEqual((lot, ends), flat.flattened((n + 1, k), own, 0))
            self.assertEqual(counts.how_many_full((n + 1, k)), len(more))

    def test_blown_up_again(self):
        for ring, lot in some_full_lots():
            n, k = ring
            if n > 2 * k + 1:
                less, ends = flat.flattened(ring, lot, 0)
                self.assertEqual(lot, flat.blown_up((n - 1, k), less, ends))

    def test_what_are_no_ends(self):
        for n, k in [(3, 1), (4, 1), (5, 1), (5, 2), (6, 2), (7, 2), (7, 3), (8, 2)]:
            for lot in plain.full_lots((n, k))[::3]:
                told = set(all_ends((n, k), lot, 0))
                for ends in product(range(n), repeat=k):
                    self.assertIs(flat.are_ends((n, k), lot, 0, ends), ends in told)
                    if ends not in told:
                        self.assert_raises(CanNot, {}, flat.blown_up, (n, k), lot, ends)

    def test_ends(self):
        for ring, lot in some_full_lots()[::2]:
            for point in range(ring[0]):
                found = all_ends(ring, lot, point)
                self.assertEqual(found, flat.ends_from(ring, lot, point))
                self.assertEqual(len(found), flat.how_many_ends(ring, lot, point))
                for ends in found[:3] + found[-3:]:
                    self.assertIs(flat.are_ends(ring, lot, point, ends), True)

    def test_how_many_ends_added_up(self):
        for n, k in RINGS:
            for point in {0, 1, n - 1}:
                many = sum(flat.how_many_ends((n, k), lot, point) for lot in plain.full_lots((n, k)))
                self.assertEqual(counts.how_many_full((n + 1, k)), many)

    def test_rows_of_ends(self):
        for ring in RINGS:
            n, k = ring
            seen = set()
            for lot in plain.full_lots(ring):
                row, size, left = [], n, lot
                while size > 2 * k + 1:
                    left, ends = flattened((size, k), left, 0) if n < 9 else flat.flattened((size, k), left, 0)
                    row.append(ends)
                    size -= 1
                self.assertEqual((), left)
                self.assertEqual(tuple(row), flat.ends_row(ring, lot))
                self.assertEqual(lot, flat.lot_of_ends(ring, row))
                seen.add(tuple(row))
            self.assertEqual(len(plain.full_lots(ring)), len(seen))

    def test_rows_that_are_of_none(self):
        for n, k in [(4, 1), (5, 1), (6, 2), (7, 2), (8, 3)]:
            told = {flat.ends_row((n, k), lot): lot for lot in plain.full_lots((n, k))}
            source = Random(n)
            some = list(product(product(range(n), repeat=k), repeat=n - 2 * k - 1))
            for row in some if len(some) < 3000 else source.sample(some, 3000):
                if row in told:
                    self.assertEqual(told[row], flat.lot_of_ends((n, k), row))
                else:
                    self.assert_raises(CanNot, {}, flat.lot_of_ends, (n, k), row)


class Edges(Raising):
    def test_one_full_lot(self):
        for n, k in ((3, 1), (5, 2), (39, 19)):
            ring = (n, k)
            self.assert_raises(CanNot, {}, flat.flattened, ring, (), 0)
            self.assert_raises(NoLine, {"line": (0, 1)}, flat.flat_line, ring, (), 0, (0, 1))
            self.assertEqual((), flat.ends_row(ring, ()))
            self.assertEqual((), flat.lot_of_ends(ring, ()))
            # each of the first ones has two rim LINES: their far ends are next to one another
            for point in (0, 1, n - 1):
                ends = [tuple((point + step + k + (step >= at)) % n for step in range(k)) for at in range(k + 1)]
                self.assertEqual(sorted(ends), flat.ends_from(ring, (), point))
                self.assertEqual(k + 1, flat.how_many_ends(ring, (), point))
                self.assertTrue(all(flat.are_ends(ring, (), point, own) for own in ends))
            lots = [flat.blown_up(ring, (), own) for own in flat.ends_from(ring, (), 0)]
            self.assertEqual(list(order_of_all((n + 1, k))), sorted(lots))

    def test_checks_of_the_point(self):
        five, pent, cuts = (5, 2), (5, 1), ((0, 2), (0, 3))
        for point in (-1, 5, 10 ** 6):
            self.assert_raises(NoPoint, {"point": point}, flat.flattened, five, (), point)
            self.assert_raises(NoPoint, {"point": point}, flat.flat_line, pent, cuts, point, (0, 2))
            self.assert_raises(NoPoint, {"point": point}, flat.flat_line, pent, cuts, point, (2, 4))
            self.assert_raises(NoPoint, {"point": point}, flat.ends_from, pent, cuts, point)
            self.assert_raises(NoPoint, {"point": point}, flat.how_many_ends, pent, cuts, point)
            self.assert_raises(NoPoint, {"point": point}, flat.are_ends, pent, cuts, point, None)
            self.assert_raises(Unfit, {}, flat.flat_line, pent, cuts, point, (2, 5))
            self.assert_raises(Unfit, {}, flat.flattened, pent, cuts[:1], point)
        for point in (None, True, "0", 0.0, (0,)):
            self.assert_raises(Unfit, {}, flat.flattened, five, (), point)
            self.assert_raises(Unfit, {}, flat.flat_line, pent, cuts, point, (2, 4))
            self.assert_raises(Unfit, {}, flat.are_ends, pent, cuts, point, (0,))

    def test_checks_of_ends(self):
        six, both = (6, 2), ((0, 3), (1, 4))
        for ends in ((2,), (2, 3, 4), (), (2, 6), (-1, 3), (2, -4), (True, 3), (2, None), ("2", "3"), (2.0, 3), ((2,), 3), "23", 2, None, {2, 3}, {2: 3}):
            self.assert_raises(Unfit, {}, flat.blown_up, six, both, ends)
        for ends in ((3, 3), (3, 2), (0, 1), (1, 0), (2, 2), (5, 5), (4, 4), (4, 3), (2, 1)):
            self.assert_raises(CanNot, {}, flat.blown_up, six, both, ends)
            self.assert_raises(CanNot, {}, flat.blown_up, list(six), [list(own) for own in both], list(ends))
        self.assert_raises(Unfit, {}, flat.blown_up, six, both[:1], (3, 3))
        for thing in ([2, 3], (2,), (2, 3, 4), (), None, True, "23", (2, True), (2.0, 3), (2, 3.0), ("2", 3), ((2, 3),), (2, [3]), (10 ** 100, -5)):
            self.assertIs(flat.are_ends(six, both, 0, thing), False, thing)
        self.assertIs(flat.are_ends(six, both, 0, (2, 3)), True)

    def test_checks_of_rows(self):
        seven, row = (7, 2), ((2, 4), (3, 4))
        for wrong in ((), row[:1], row + row[:1], (2, 4), (row,), (row[0], 5), (row[0], None), (row[0], "34"), (row[0], (3,)), (row[0], (3, 4, 5)), "ab",
                      None, 5, {row[0]: row[1]}, (row[0], (3, True)), (row[0], (3, "4")), (row[0], (3.0, 4)), (row[0], ((3, 4),)), (row[0], {3, 4})):
            self.assert_raises(Unfit, {}, flat.lot_of_ends, seven, wrong)
        for none in (row[::-1], (row[0], (4, 3)), (row[0], (3, -1)), (row[0], (10 ** 6, 4)), ((6, 7), row[1]), ((-2, -1), row[1]), ((2, 2), row[1]), ((2, 6), row[1])):
            self.assert_raises(CanNot, {}, flat.lot_of_ends, seven, none)
        self.assertEqual(((0, 3), (1, 5), (2, 5), (3, 6)), flat.lot_of_ends(list(seven), [list(own) for own in row]))

    def test_few_ends(self):
        ring = (20, 5)
        fan = order.least_full(ring)
        gone = {2000: ((1, 10), (2, 12), (4, 11), (4, 16)), 2001: ((0, 9), (2, 12), (3, 16))}
        come = {2000: ((6, 12), (8, 14), (8, 15), (11, 17)), 2001: ((8, 15), (9, 15), (12, 18))}
        for many in (2000, 2001):
            lot = tuple(sorted({*fan, *come[many]} - {*gone[many]}))
            self.assertIs(filling.is_full(ring, lot), True)
            self.assertEqual(many, flat.how_many_ends(ring, lot, 0))
            if many == 2000:
                found = flat.ends_from(ring, lot, 0)
                self.assertEqual((2000, sorted(set(found))), (len(found), found))
                self.assertTrue(all(flat.are_ends(ring, lot, 0, own) for own in found[::99]))
            else:
                self.assert_raises(TooMany, {}, flat.ends_from, ring, lot, 0)
        for own in GREAT[1:6]:
            self.assertGreater(flat.how_many_ends(own, order.least_full(own), 0), 2000 if own[1] > 2 else 600)
            if own[1] > 2:
                self.assert_raises(TooMany, {}, flat.ends_from, own, order.least_full(own), 0)
        self.assert_raises(NoPoint, {"point": 40}, flat.ends_from, (40, 5), order.least_full((40, 5)), 40)


def order_of_all(ring):
    """The FULL LOTS of a ring of 2k + 2 points: each lacks one of the LINES that halve it."""
    n, k = ring
    halves = tuple((a, a + n // 2) for a in range(n // 2))
    return sorted(halves[:at] + halves[at + 1:] for at in range(k + 1))


class GreatRings(Raising):
    def test_there_and_back(self):
        for ring in GREAT:
            n, k = ring
            for lot in great_full_lots(ring):
                row = flat.ends_row(ring, lot)
                self.assertEqual((n - 2 * k - 1, lot), (len(row), flat.lot_of_ends(ring, row)))
                for point in (0, 1, k, n - 1):
                    many = flat.how_many_ends(ring, lot, point)
                    if many <= 2000:
                        found = flat.ends_from(ring, lot, point)
                        self.assertEqual(many, len(found))
                        self.assertTrue(all(flat.are_ends(ring, lot, point, own) for own in found[::50]))
                    if n > 2 * k + 1:
                        less, ends = flat.flattened(ring, lot, point)
                        self.assertIs(filling.is_full((n - 1, k), less), True)
                        self.assertIs(flat.are_ends((n - 1, k), less, 0, ends), True)
                        goes = {flat.flat_line(ring, lot, point, line) for line in lot[:9]}
                        self.assertTrue(all(line in less or plain.length(n - 1, line) == k for line in goes))
                        turned = tuple(sorted(plain.line_of((a - point) % n, (b - point) % n) for a, b in lot))
                        self.assertEqual(turned, flat.blown_up((n - 1, k), less, ends))

    def test_blown_up_to_more_points(self):
        for ring in GREAT[1:]:
            n, k = ring
            for lot in great_full_lots(ring):
                ends = tuple(corners.neighbours(ring, lot, point)[-1] for point in range(k))
                more = flat.blown_up(ring, lot, ends)
                self.assertIs(filling.is_full((n + 1, k), more), True)
                self.assertEqual((lot, ends), flat.flattened((n + 1, k), more, 0))


if __name__ == "__main__":
    unittest.main()
