"""Lines that meet two stars."""

import unittest
from itertools import combinations

from starsinaring import meeting
from starsinaring.errors import CanNot, NoLine, NoPoint, NoStar, Unfit
from tests import plain
from tests.raising import Raising
from tests.rings import GREAT, great_full_lots, some_full_lots

FEW = [(3, 1), (4, 1), (5, 1), (6, 1), (7, 1), (5, 2), (6, 2), (7, 2), (8, 3), (9, 4)]


class SmallRings(Raising):
    """Each function beside a plain search."""

    def test_lines_out(self):
        for ring, lot in some_full_lots():
            n, k = ring
            out = tuple(line for line in plain.long_lines(ring) if line not in lot)
            self.assertEqual(out, meeting.lines_out(ring, lot))
            self.assertEqual((n - 2 * k) * (n - 2 * k - 1) // 2, len(out))
            self.assertEqual(lot, meeting.lot_without(ring, out))
        for ring in FEW:
            if len(plain.long_lines(ring)) > 9:
                continue
            for lines in plain.subsets(plain.long_lines(ring)):
                lot = tuple(line for line in plain.long_lines(ring) if line not in lines)
                if lot in plain.full_lots(ring):
                    self.assertEqual(lot, meeting.lot_without(ring, lines))
                else:
                    self.assert_raises(CanNot, {}, meeting.lot_without, ring, lines)

    def test_stars_of_full_lots(self):
        for ring, lot in some_full_lots():
            n, _ = ring
            stars = plain.stars_in(ring, lot)
            met = {}
            for star, other in combinations(stars, 2):
                lines = [line for line in plain.all_lines(n) if plain.meets(n, line, star, other)]
                self.assertEqual(1, len(lines))
                met[lines[0]] = (star, other)
                self.assertEqual(lines[0], meeting.met_line(ring, lot, star, other))
                self.assertEqual(lines[0], meeting.met_line(ring, lot, other, star))
            self.assertEqual({line for line in plain.long_lines(ring) if line not in lot}, set(met))
            for line in plain.all_lines(n):
                if line in met:
                    self.assertEqual(met[line], meeting.met_stars(ring, lot, line))
                else:
                    self.assert_raises(NoLine, {"line": line}, meeting.met_stars, ring, lot, line)
            self.assertEqual(sorted((*met[line], line) for line in met), meeting.couples(ring, lot))
            for star in stars:
                row = sorted((own, line) for line, both in met.items() if star in both for own in both if own != star)
                self.assertEqual(tuple(row), meeting.couples_of(ring, lot, star))
                self.assert_raises(CanNot, {}, meeting.met_line, ring, lot, star, star)

    def test_stars_that_are_not_in_the_lot(self):
        for ring in FEW:
            for lot in plain.full_lots(ring)[::3]:
                stars = plain.stars_in(ring, lot)
                others = [star for star in plain.all_stars(ring) if star not in stars]
                for star in others:
                    told = {"star": star}
                    self.assert_raises(NoStar, told, meeting.met_line, ring, lot, star, stars[0])
                    self.assert_raises(NoStar, told, meeting.met_line, ring, lot, stars[0], star)
                    self.assert_raises(NoStar, told, meeting.met_line, ring, lot, star, others[0])
                    self.assert_raises(NoStar, told, meeting.met_line, ring, lot, star, star)
                    self.assert_raises(NoStar, told, meeting.couples_of, ring, lot, star)

    def test_corners_of_stars(self):
        for ring in FEW + [(8, 2), (9, 3)]:
            n, _ = ring
            for star in plain.all_stars(ring):
                corners = plain.star_corners(star)
                for point in range(n):
                    if point in star:
                        self.assertEqual(corners[point], meeting.corner_of(ring, star, point))
                        self.assert_raises(CanNot, {}, meeting.seen_from, ring, star, point)
                    else:
                        seen = [own for own, (_, q, r) in corners.items() if point in plain.walk_between(n, q, r)]
                        self.assertEqual(seen, [meeting.seen_from(ring, star, point)])
                        self.assert_raises(CanNot, {}, meeting.corner_of, ring, star, point)
                for point in (-1, n, n + 1, 10 ** 6, -10 ** 6):
                    self.assert_raises(NoPoint, {"point": point}, meeting.corner_of, ring, star, point)
                    self.assert_raises(NoPoint, {"point": point}, meeting.seen_from, ring, star, point)

    def test_any_two_stars(self):
        for ring in FEW:
            n, _ = ring
            lines = plain.all_lines(n)
            lots = set(plain.all_lots(ring))
            long = set(plain.long_lines(ring))
            for star in plain.all_stars(ring):
                for other in plain.all_stars(ring):
                    met = tuple(line for line in lines if plain.meets(n, line, star, other))
                    self.assertEqual(met, meeting.all_meeting(ring, star, other))
                    both = tuple(sorted({*plain.star_lines(star), *plain.star_lines(other)} & long))
                    self.assertIs(meeting.get_along(ring, star, other), both in lots)
                    if both in lots:
                        self.assertEqual(star != other, len(met) == 1)
                        self.assertLessEqual(set(met), long)
                    if star == other:
                        self.assertEqual((), met)
                        self.assertIn(both, lots)
                    for line in met + lines[::5]:
                        self.assertIs(meeting.do_meet(ring, star, other, line), line in met)


class Edges(Raising):
    def test_one_star(self):
        for n, k in ((3, 1), (5, 2), (39, 19)):
            ring, star = (n, k), tuple(range(n))
            self.assertEqual(((), ()), (meeting.lines_out(ring, ()), meeting.lot_without(ring, ())))
            self.assertEqual(([], ()), (meeting.couples(ring, ()), meeting.couples_of(ring, (), star)))
            self.assert_raises(CanNot, {}, meeting.met_line, ring, (), star, star)
            self.assert_raises(NoLine, {"line": (0, k)}, meeting.met_stars, ring, (), (0, k))
            self.assert_raises(CanNot, {}, meeting.seen_from, ring, star, 0)
            self.assertEqual((1, k + 1, (k + 2) % n), meeting.corner_of(ring, star, 1))
            self.assertIs(meeting.do_meet(ring, star, star, (0, 1)), False)
            self.assertEqual((), meeting.all_meeting(ring, star, star))
            self.assertIs(meeting.get_along(ring, star, star), True)

    def test_order_of_errors(self):
        seven, low = (7, 2), ((0, 3), (0, 4), (1, 4), (1, 5))
        a, none = (0, 1, 2, 3, 4), (0, 1, 2, 3, 6)
        self.assert_raises(Unfit, {}, meeting.met_line, seven, low, none, (0, 1, 2, 3))
        self.assert_raises(Unfit, {}, meeting.met_line, seven, low[:3], none, none)
        self.assert_raises(Unfit, {}, meeting.met_stars, seven, low[:3], (0, 3))
        self.assert_raises(Unfit, {}, meeting.met_stars, seven, low, (3, 0))
        self.assert_raises(Unfit, {}, meeting.lot_without, seven, ((0, 2),))
        self.assert_raises(Unfit, {}, meeting.seen_from, seven, a[::-1], 9)
        self.assert_raises(Unfit, {}, meeting.seen_from, seven, a, True)
        self.assert_raises(Unfit, {}, meeting.do_meet, seven, a, a, (2, 2))
        self.assert_raises(NoStar, {"star": none}, meeting.met_line, list(seven), list(low), list(none), list(a))
        for lines in ((), ((2, 5),), ((0, 3), (0, 4), (2, 6)), ((0, 3), (2, 5), (2, 6), (3, 6))):
            self.assert_raises(CanNot, {}, meeting.lot_without, seven, lines)


class GreatRings(Raising):
    def test_all_functions(self):
        for ring in GREAT:
            n, k = ring
            for full in great_full_lots(ring):
                out = meeting.lines_out(ring, full)
                self.assertEqual((n - 2 * k) * (n - 2 * k - 1) // 2, len(out))
                self.assertEqual(full, meeting.lot_without(ring, out))
                couples = meeting.couples(ring, full)
                self.assertEqual(sorted(out), sorted(line for _, _, line in couples))
                self.assertEqual(sorted(couples), couples)
                for star, other, line in couples[::37]:
                    self.assertEqual(line, meeting.met_line(ring, full, other, star))
                    self.assertEqual((star, other), meeting.met_stars(ring, full, line))
                    self.assertIn((other, line), meeting.couples_of(ring, full, star))
                    self.assertEqual((line,), meeting.all_meeting(ring, star, other))
                    self.assertIs(meeting.do_meet(ring, star, other, line), True)
                    self.assertIs(meeting.do_meet(ring, star, star, line), False)
                    self.assertIs(meeting.get_along(ring, star, other), True)
                    ends = {meeting.seen_from(ring, star, own) for own in line if own not in star}
                    self.assertLessEqual(ends, set(line))
                    for point in star[:2]:
                        self.assertEqual(plain.star_corners(star)[point], meeting.corner_of(ring, star, point))
            for star in (tuple(range(2 * k + 1)), tuple(range(0, 2 * n, 2))[:2 * k + 1]):
                if star[-1] < n:
                    met = tuple(line for line in plain.all_lines(n)[::3] if plain.meets(n, line, star, tuple(range(n - 2 * k - 1, n))))
                    self.assertLessEqual(set(met), set(meeting.all_meeting(ring, star, tuple(range(n - 2 * k - 1, n)))))


if __name__ == "__main__":
    unittest.main()
