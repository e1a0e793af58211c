"""Corners of lots, and the walks that lead from one to the next."""

import unittest

from starsinaring import corners
from starsinaring.errors import NoLine, NoPoint, Unfit
from tests import plain
from tests.raising import Raising
from tests.rings import GREAT, great_full_lots, some_lots
from tests.wrong import nested

def is_star_walk(ring, lot, walk):
    points = tuple(sorted({corner[0] for corner in walk}))
    return len(walk) == len(points) == 2 * ring[1] + 1 and set(plain.star_lines(points)) <= plain.sides(ring, lot)


class SmallRings(Raising):
    """Each function beside a plain search."""

    def test_neighbours(self):
        for ring, lot in some_lots():
            n, _ = ring
            side = plain.sides(ring, lot)
            for point in range(n):
                row = tuple(own for own in plain.walk_between(n, point, point - 1 if point else n - 1)
                            if plain.line_of(point, own) in side)
                row += tuple(own for own in [point - 1 if point else n - 1] if plain.line_of(point, own) in side)
                self.assertEqual(row, corners.neighbours(ring, lot, point), (ring, lot, point))

    def test_corners(self):
        for ring, lot in some_lots():
            n, _ = ring
            found = plain.all_corners(ring, lot)
            self.assertEqual(found, corners.all_corners(ring, lot))
            self.assertEqual(2 * len(lot) + n, len(found))
            for point in range(n):
                there = corners.corners_at(ring, lot, point)
                self.assertEqual(set(own for own in found if own[0] == point), set(there))
                self.assertEqual(len([line for line in lot if point in line]) + 1, len(there))
                around = [(own[1] - point) % n for own in there]
                self.assertEqual(sorted(around), around)

    def test_is_corner(self):
        for ring, lot in [((5, 1), ((0, 2), (0, 3))), ((6, 2), ((1, 4),)), ((7, 2), ((0, 3), (0, 4), (2, 5))), ((5, 2), ())]:
            n, _ = ring
            found = plain.all_corners(ring, lot)
            for p in range(-2, n + 2):
                for q in range(-2, n + 2):
                    for r in range(-2, n + 2):
                        self.assertIs(corners.is_corner(ring, lot, (p, q, r)), (p, q, r) in found)

    def test_what_corners_look_at(self):
        for ring, lot in some_lots():
            n, _ = ring
            long = plain.long_lines(ring)
            seen = {}
            for p, q, r in plain.all_corners(ring, lot):
                self.assertEqual(plain.walk_between(n, q, r), corners.looks_at(ring, lot, (p, q, r)))
                for far in plain.walk_between(n, q, r):
                    self.assertNotIn((p, far), seen)
                    seen[(p, far)] = (p, q, r)
            for p in range(n):
                for far in range(n):
                    self.assertEqual(seen.get((p, far)), corners.corner_looking(ring, lot, p, far))
                    out = plain.line_of(p, far) in long and plain.line_of(p, far) not in lot
                    self.assertEqual(out, (p, far) in seen)

    def test_corners_of_lines(self):
        for ring, lot in some_lots():
            side = plain.sides(ring, lot)
            found = plain.all_corners(ring, lot)
            for line in plain.all_lines(ring[0]):
                if line in side:
                    own = tuple(c for c in found if line in (plain.line_of(c[0], c[1]), plain.line_of(c[0], c[2])))
                    self.assertEqual(own, corners.corners_of(ring, lot, line))
                    self.assertEqual(4 if line in lot else 2, len(own))
                else:
                    self.assert_raises(NoLine, {"line": line}, corners.corners_of, ring, lot, line)

    def test_next_ones(self):
        for ring, lot in some_lots():
            found = plain.all_corners(ring, lot)
            ahead = {}
            for corner in found:
                behind = plain.next_corner(found, corner)
                self.assertEqual(behind, corners.next_corner(ring, lot, corner))
                self.assertNotIn(behind, ahead)
                ahead[behind] = corner
            self.assertEqual(set(found), set(ahead))
            for corner in found:
                self.assertEqual(ahead[corner], corners.corner_ahead(ring, lot, corner))

    def test_walks(self):
        for ring, lot in some_lots():
            n, k = ring
            found = plain.all_corners(ring, lot)
            walks = {}
            for corner in found:
                walk = plain.walk_of(found, corner)
                walks[corner] = walk
                self.assertEqual(walk, corners.corner_walk(ring, lot, corner))
                rounds, rest = divmod(sum((r - p) % n for p, _, r in walk), n)
                self.assertEqual((rounds, 0), (corners.walk_rounds(ring, lot, corner), rest))
                good = is_star_walk(ring, lot, walk)
                self.assertIs(corners.is_star_walk(ring, lot, corner), good)
                if good:
                    self.assertEqual(k + 1, rounds)
            first = sorted({tuple(walk) for corner, walk in walks.items() if corner == min(walk)})
            self.assertEqual(first, corners.corner_walks(ring, lot))
            self.assertEqual(len(lot) + n - k, sum(corners.walk_rounds(ring, lot, walk[0]) for walk in first))
            self.assertEqual(lot in plain.full_lots(ring), all(is_star_walk(ring, lot, walk) for walk in first))

    def test_what_a_star_looks_at_cannot_be_put(self):
        for ring, lot in some_lots():
            more = set(plain.all_lots(ring))
            for corner in corners.all_corners(ring, lot):
                if corners.is_star_walk(ring, lot, corner):
                    for far in corners.looks_at(ring, lot, corner):
                        self.assertNotIn(tuple(sorted((*lot, plain.line_of(corner[0], far)))), more)


class Edges(Raising):
    def test_no_long_lines(self):
        for n, k in ((3, 1), (5, 2), (39, 19)):
            ring = (n, k)
            found = tuple((p, (p + k) % n, (p + k + 1) % n) for p in range(n))
            self.assertEqual(found, corners.all_corners(ring, ()))
            self.assertEqual(((k, k + 1), found[:1]), (corners.neighbours(ring, (), 0), corners.corners_at(ring, (), 0)))
            self.assertEqual(1, len(corners.corner_walks(ring, ())))
            self.assertEqual(n, len(corners.corner_walk(ring, (), found[2])))
            self.assertEqual((found[2], k + 1), (corners.corner_walk(ring, (), found[2])[0], corners.walk_rounds(ring, (), found[1])))
            self.assertIs(corners.is_star_walk(ring, (), found[0]), True)
            self.assertEqual((), corners.looks_at(ring, (), found[1]))
            self.assertIsNone(corners.corner_looking(ring, (), 0, 1))

    def test_the_empty_lot(self):
        for n, k, many in ((6, 1, 1), (6, 2, 2), (7, 2, 1), (9, 3, 3), (40, 10, 10), (40, 19, 1), (12, 4, 4)):
            ring = (n, k)
            walks = corners.corner_walks(ring, ())
            self.assertEqual(n, sum(len(walk) for walk in walks))
            self.assertEqual(n - k, sum(corners.walk_rounds(ring, (), walk[0]) for walk in walks))
            for walk in walks:
                self.assertIs(corners.is_star_walk(ring, (), walk[0]), False)
        self.assertEqual([3, 3], [len(walk) for walk in corners.corner_walks((6, 2), ())])

    def test_points_that_are_none(self):
        ring, lot = (7, 2), ((0, 3), (0, 4), (2, 5))
        for bad in (-1, 7, 8, -7, 10 ** 6, -10 ** 6):
            for function in (corners.neighbours, corners.corners_at):
                self.assert_raises(NoPoint, {"point": bad}, function, ring, lot, bad)
            self.assert_raises(NoPoint, {"point": bad}, corners.corner_looking, ring, lot, bad, 3)
            self.assert_raises(NoPoint, {"point": bad}, corners.corner_looking, ring, lot, 3, bad)
            self.assert_raises(NoPoint, {"point": bad}, corners.corner_looking, ring, lot, bad, 9)
            self.assertIs(corners.is_corner(ring, lot, (bad, 2, 3)), False)

    def test_corners_of_other_lots_are_none(self):
        ring, lot = (7, 2), ((0, 3), (0, 4), (2, 5))
        for corner in plain.all_corners(ring, ()) + plain.all_corners(ring, ((1, 5),)):
            if corner not in plain.all_corners(ring, lot):
                for function in (corners.looks_at, corners.next_corner, corners.corner_ahead, corners.corner_walk,
                                 corners.walk_rounds, corners.is_star_walk):
                    self.assert_raises(Unfit, {}, function, ring, lot, corner)
                self.assertIs(corners.is_corner(ring, lot, corner), False)

    def test_things(self):
        ring, lot = (7, 2), ((0, 3), (0, 4), (2, 5))
        for thing in ([0, 2, 3], (False, 2, 3), (0, 2), (0, 2, 3, 3), (0, 3, 2), (0, 2.0, 3), ("0", 2, 3), None, True, 0, "023",
                      ((0, 2, 3),), (0, (2, 3)), nested(20, 0), (0, 2, None), (0, 2, nested(19, 3)), (0, 2, True), (1, 3, 4)):
            self.assertIs(corners.is_corner(ring, lot, thing), False, thing)
        self.assertIs(corners.is_corner(ring, lot, (0, 2, 3)), True)
        self.assertIs(corners.is_corner([7, 2], [[0, 3], (0, 4), [2, 5]], (6, 1, 4)), True)


class GreatRings(Raising):
    def test_all_functions(self):
        for ring in GREAT:
            n, k = ring
            for full in great_full_lots(ring):
                self.one_lot(ring, full, True)
                self.one_lot(ring, full[::3], not full[::3] and n == 2 * k + 1)
            self.one_lot(ring, (), n == 2 * k + 1)

    def one_lot(self, ring, lot, is_full):
        n, k = ring
        found = corners.all_corners(ring, lot)
        self.assertEqual(2 * len(lot) + n, len(found))
        walks = corners.corner_walks(ring, lot)
        self.assertEqual(found, tuple(sorted(corner for walk in walks for corner in walk)))
        self.assertEqual(len(lot) + n - k, sum(corners.walk_rounds(ring, lot, walk[0]) for walk in walks))
        good = [corners.is_star_walk(ring, lot, walk[0]) for walk in walks]
        self.assertEqual(is_full, all(good))
        if is_full:
            self.assertEqual(n - 2 * k, len(walks))
        for corner in found[::29]:
            p, q, r = corner
            self.assertEqual(corner, corners.corner_ahead(ring, lot, corners.next_corner(ring, lot, corner)))
            self.assertIn(corner, corners.corner_walk(ring, lot, corner))
            self.assertIs(corners.is_corner(ring, lot, corner), True)
            self.assertIn(corner, corners.corners_at(ring, lot, p))
            self.assertIn(corner, corners.corners_of(ring, lot, plain.line_of(p, r)))
            self.assertEqual((q, r), tuple(own for own in corners.neighbours(ring, lot, p) if own in (q, r)))
            for far in corners.looks_at(ring, lot, corner)[:2]:
                self.assertEqual(corner, corners.corner_looking(ring, lot, p, far))


if __name__ == "__main__":
    unittest.main()
