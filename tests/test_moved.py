"""Sets of lines and of points, turned and mirrored."""

import unittest

from starsinaring import corners, counts, exchange, filling, lots, meeting, moved, order, stars
from starsinaring.errors import TooMany, Unfit
from tests import plain
from tests.raising import Raising
from tests.rings import FURTHER_FULL, GREAT, SMALL, great_full_lots, some_full_lots, some_lots

RINGS = SMALL + [(n, k) for n, k, _ in FURTHER_FULL]
# as many FULL LOTS as are few, of all rings to 40 points, and more
MOST, MORE = (35, 16), (37, 17)


def some_sets(ring):
    """Sets of LINES of all lengths, some like themselves turned."""
    n, _ = ring
    every = plain.all_lines(n)
    found = [(), every, every[:1], every[-1:]] + plain.some_subsets(every, 12, n) + [own[:3] for own in plain.some_subsets(every, 8, n + 1)]
    for step in range(1, n // 2 + 1):
        found.append(tuple(sorted({plain.line_of(point, (point + step) % n) for point in range(n)})))
        found.append(tuple(sorted({plain.line_of(point, (point + step) % n) for point in range(0, n - 1, 2)})))
    return found


def points_turned(n, points, number):
    for _ in range(number % n):
        points = tuple(sorted(0 if point == n - 1 else point + 1 for point in points))
    return points


class SmallRings(Raising):
    """Each function beside steps from point to point."""

    def test_turned_and_mirrored(self):
        for ring in RINGS:
            n, _ = ring
            for lines in some_sets(ring):
                for number in (0, 1, 2, n - 1, n, n + 3, -1, -n, -n - 2, 7 * n + 4, 10 ** 6, -10 ** 6):
                    self.assertEqual(plain.turned(n, lines, number), moved.turned(ring, lines, number))
                self.assertEqual(plain.mirrored(n, lines), moved.mirrored(ring, lines))
                self.assertEqual(lines, moved.mirrored(ring, moved.mirrored(ring, lines)))

    def test_points(self):
        for ring in RINGS:
            n, _ = ring
            for points in plain.subsets(range(n))[::7] + [(), tuple(range(n)), (0,), (n - 1,), (0, n - 1)]:
                for number in (0, 1, 2, n - 1, n, n + 3, -1, -n - 2, 10 ** 6, -10 ** 6):
                    self.assertEqual(points_turned(n, points, number), moved.points_turned(ring, points, number))
                self.assertEqual(tuple(sorted(list(range(n))[-1 - point] for point in points)), moved.points_mirrored(ring, points))

    def test_numbers(self):
        for ring in RINGS:
            n, _ = ring
            for lines in some_sets(ring):
                turned = [plain.turned(n, lines, number) for number in range(n)]
                flipped = [plain.turned(n, plain.mirrored(n, lines), number) for number in range(n)]
                self.assertEqual(tuple(at for at, own in enumerate(turned) if own == lines), moved.like_itself(ring, lines))
                self.assertEqual(min(turned + flipped), moved.least_alike(ring, lines))
                for other in [turned[1], turned[-1], flipped[0], flipped[n // 2], lines, lines[1:], (), plain.all_lines(n)[:len(lines)]]:
                    turns = tuple(at for at, own in enumerate(turned) if own == other)
                    flips = tuple(at for at, own in enumerate(flipped) if own == other)
                    self.assertEqual(turns, moved.turns_to(ring, lines, other))
                    self.assertEqual(flips, moved.mirrors_to(ring, lines, other))
                    self.assertIs(moved.are_alike(ring, lines, other), bool(turns or flips))

    def test_kinds(self):
        for ring in RINGS:
            n, _ = ring
            told = sorted({min(plain.turned(n, lot, number) for number in range(n)) for lot in plain.full_lots(ring)})
            self.assertEqual(told, moved.kinds(ring))
            self.assertEqual(len(told), moved.how_many_kinds(ring))

    def test_what_goes_with_lots(self):
        for ring, lot in some_lots()[::13]:
            n, _ = ring
            for move in (lambda lines: moved.turned(ring, lines, 3), lambda lines: moved.mirrored(ring, lines)):
                other = move(lot)
                self.assertIs(lots.is_lot(ring, other), True)
                self.assertIs(filling.is_full(ring, other), filling.is_full(ring, lot))
                self.assertEqual(move(lots.can_come(ring, lot)), lots.can_come(ring, other))
                self.assertEqual(len(corners.corner_walks(ring, lot)), len(corners.corner_walks(ring, other)))

    def test_what_goes_with_full_lots(self):
        for ring, lot in some_full_lots()[::7]:
            for move, spots in ((lambda lines: moved.turned(ring, lines, 5), lambda own: moved.points_turned(ring, own, 5)),
                                (lambda lines: moved.mirrored(ring, lines), lambda own: moved.points_mirrored(ring, own))):
                other = move(lot)
                self.assertEqual(tuple(sorted(spots(star) for star in stars.stars_in(ring, lot))), stars.stars_in(ring, other))
                pairs = [(move((gone,))[0], move((come,))[0]) for gone, come in exchange.exchanges(ring, lot)]
                self.assertEqual(sorted(pairs), exchange.exchanges(ring, other))
                for line in meeting.lines_out(ring, lot):
                    both = tuple(sorted(spots(star) for star in meeting.met_stars(ring, lot, line)))
                    self.assertEqual(both, meeting.met_stars(ring, other, move((line,))[0]))


class Edges(Raising):
    def test_nothing_and_one_full_lot(self):
        for n, k in ((3, 1), (5, 2), (40, 1), (39, 19)):
            ring, every = (n, k), tuple(range(n))
            self.assertEqual(((), ()), (moved.turned(ring, (), 5), moved.mirrored(ring, ())))
            self.assertEqual(((), ()), (moved.points_turned(ring, (), 5), moved.points_mirrored(ring, ())))
            self.assertEqual((every, every), (moved.points_turned(ring, every, -4), moved.points_mirrored(ring, every)))
            self.assertEqual((every, every, every, True, ()), (moved.turns_to(ring, (), ()), moved.mirrors_to(ring, (), ()), moved.like_itself(ring, ()),
                                                                moved.are_alike(ring, (), ()), moved.least_alike(ring, ())))
        for ring in ((3, 1), (5, 2), (39, 19)):
            self.assertEqual(([()], 1), (moved.kinds(ring), moved.how_many_kinds(ring)))

    def test_known_numbers_of_kinds(self):
        # ways to cut polygons into triangles, as far as one can't be turned to the other
        self.assertEqual([1, 1, 1, 4, 6, 19, 49, 150], [moved.how_many_kinds((n, 1)) for n in range(3, 11)])
        self.assertEqual([1] * 6, [moved.how_many_kinds((2 * k + 2, k)) for k in (1, 2, 3, 4, 18, 19)])

    def test_few(self):
        for ring in (MOST, (10, 1), (12, 4)):
            n, _ = ring
            found = moved.kinds(ring)
            self.assertEqual(sorted(set(found)), found)
            self.assertEqual(len(found), moved.how_many_kinds(ring))
            # as many FULL LOTS are of a kind as n by the numbers by which it is like itself
            self.assertEqual(counts.how_many_full(ring), sum(n // len(moved.like_itself(ring, own)) for own in found))
            self.assertEqual(order.least_full(ring), found[0])
        for ring in (MORE, (11, 1), (10, 2), (40, 1), (40, 17)):
            self.assert_raises(TooMany, {}, moved.kinds, ring)
            self.assert_raises(TooMany, {}, moved.how_many_kinds, ring)

    def test_alike_by_one_way_alone(self):
        six = (6, 1)
        fan, flipped = ((0, 2), (0, 3)), ((0, 3), (1, 3))
        self.assertEqual(((), (4,)), (moved.turns_to(six, fan, flipped), moved.mirrors_to(six, fan, flipped)))
        self.assertIs(moved.are_alike(six, fan, flipped), True)
        self.assertEqual(((1,), ()), (moved.turns_to(six, fan, ((1, 3), (1, 4))), moved.mirrors_to(six, fan, ((1, 3), (1, 4)))))
        self.assertIs(moved.are_alike(six, fan, ((0, 2), (1, 4))), False)
        self.assertIs(moved.are_alike(six, fan, fan[:1]), False)

    def test_what_is_no_set_of_points(self):
        six = (6, 1)
        for points in ((6,), (-1,), (-1, 0), (0, 6), (1, 0), (0, 0), (True,), (0, True), (0.0,), ("0",), ((0,),), None, 5, "01", {0, 1}, (0, None), (10 ** 6,)):
            self.assert_raises(Unfit, {}, moved.points_turned, six, points, 1)
            self.assert_raises(Unfit, {}, moved.points_mirrored, six, points)
        self.assertEqual((1, 2), moved.points_turned(list(six), [0, 1], 1))

    def test_wrong_numbers(self):
        for number in (None, True, False, "1", 1.0, (1,), [1]):
            self.assert_raises(Unfit, {}, moved.turned, (6, 1), ((0, 2),), number)
            self.assert_raises(Unfit, {}, moved.points_turned, (6, 1), (0, 2), number)


class GreatRings(Raising):
    def test_all_functions(self):
        for ring in GREAT:
            n, _ = ring
            for lines in (*great_full_lots(ring), plain.all_lines(n)[::3], plain.all_lines(n)):
                for number in (1, -7, n // 2, 999983):
                    other = moved.turned(ring, lines, number)
                    self.assertEqual(plain.turned(n, lines, number), other)
                    self.assertIn(number % n, moved.turns_to(ring, lines, other))
                    self.assertEqual(lines, moved.turned(ring, other, -number))
                    self.assertIs(moved.are_alike(ring, other, moved.mirrored(ring, lines)), True)
                    self.assertEqual(moved.least_alike(ring, lines), moved.least_alike(ring, other))
                self.assertEqual(plain.mirrored(n, lines), moved.mirrored(ring, lines))
                self.assertIn(0, moved.mirrors_to(ring, lines, moved.mirrored(ring, lines)))
                self.assertIn(0, moved.like_itself(ring, lines))
                self.assertLessEqual(moved.least_alike(ring, lines), lines)


if __name__ == "__main__":
    unittest.main()
