"""Stars: 2k + 1 points, each joined with the k-th next one."""

import unittest
from itertools import combinations

from starsinaring import stars
from starsinaring.errors import CanNot, NoLine, NoPoint, NoStar, Unfit
from tests import plain
from tests.raising import Raising
from tests.rings import GREAT, SMALL, great_full_lots, some_lots
from tests.wrong import nested

FEW = [(3, 1), (4, 1), (5, 1), (6, 1), (5, 2), (6, 2), (7, 2), (8, 3), (9, 4)]


class SmallRings(Raising):
    """Each function beside a plain search over all choices of 2k + 1 points."""

    def test_stars_and_their_lines(self):
        for ring in SMALL + [(8, 2), (9, 3)]:
            n, k = ring
            for star in plain.all_stars(ring):
                lines = plain.star_lines(star)
                self.assertEqual(lines, stars.lines_of_star(ring, star))
                self.assertEqual(2 * k + 1, len(lines))
                self.assertTrue(all(plain.length(n, line) >= k for line in lines))
                self.assertTrue(all(len([line for line in lines if point in line]) == 2 for point in star))
                seen = [far for _, q, r in plain.star_corners(star).values() for far in plain.walk_between(n, q, r)]
                self.assertEqual([point for point in range(n) if point not in star], sorted(seen))

    def test_common_lines(self):
        for ring in FEW:
            for star in plain.all_stars(ring):
                for other in plain.all_stars(ring):
                    both = tuple(sorted(set(plain.star_lines(star)) & set(plain.star_lines(other))))
                    self.assertEqual(both, stars.common_lines(ring, star, other))

    def test_stars_in_lots(self):
        for ring, lot in some_lots():
            n, k = ring
            found = plain.stars_in(ring, lot)
            self.assertEqual(found, stars.stars_in(ring, lot))
            self.assertEqual(len(found), stars.how_many_stars(ring, lot))
            if lot in plain.full_lots(ring):
                self.assertEqual(n - 2 * k, len(found))
            else:
                self.assertLess(len(found), n - 2 * k)
            corners = plain.all_corners(ring, lot)
            for star in found:
                self.assertLessEqual(set(plain.star_corners(star).values()), set(corners))
            for point in range(n):
                self.assertEqual(tuple(own for own in found if point in own), stars.stars_at(ring, lot, point))
                if lot in plain.full_lots(ring):
                    at = len([line for line in lot if point in line])
                    self.assertEqual(at + 1, len(stars.stars_at(ring, lot, point)))
            for line in plain.all_lines(n):
                if line not in plain.sides(ring, lot):
                    self.assert_raises(NoLine, {"line": line}, stars.stars_of_line, ring, lot, line)
                    continue
                own = tuple(star for star in found if line in plain.star_lines(star))
                self.assertEqual(own, stars.stars_of_line(ring, lot, line))
                if lot in plain.full_lots(ring):
                    self.assertEqual(2 if line in lot else 1, len(own))

    def test_stars_of_rim_lines_and_corners(self):
        for ring, lot in some_lots():
            n, k = ring
            found = plain.stars_in(ring, lot)
            for point in range(n):
                line = plain.line_of(point, (point + k) % n)
                own = [star for star in found if line in plain.star_lines(star)]
                if own:
                    self.assertEqual(own, [stars.rim_star(ring, lot, point)])
                else:
                    self.assert_raises(CanNot, {}, stars.rim_star, ring, lot, point)
            of_corner = {corner: star for star in found for corner in plain.star_corners(star).values()}
            self.assertEqual(len(of_corner), len(found) * (2 * k + 1))
            for corner in plain.all_corners(ring, lot):
                if corner in of_corner:
                    self.assertEqual(of_corner[corner], stars.star_of_corner(ring, lot, corner))
                else:
                    self.assert_raises(CanNot, {}, stars.star_of_corner, ring, lot, corner)

    def test_stars_beside_others(self):
        for ring, lot in some_lots():
            found = plain.stars_in(ring, lot)
            for star in found:
                own = tuple(other for other in found if other != star
                            and set(plain.star_lines(star)) & set(plain.star_lines(other)) & set(lot))
                self.assertEqual(own, stars.stars_beside(ring, lot, star))
            for star in plain.all_stars(ring)[::5]:
                if star not in found:
                    self.assert_raises(NoStar, {"star": star}, stars.stars_beside, ring, lot, star)

    def test_what_stars_lack(self):
        for ring, lot in some_lots():
            for star in plain.all_stars(ring)[::3]:
                lacking = tuple(line for line in plain.star_lines(star) if line not in plain.sides(ring, lot))
                self.assertEqual(lacking, stars.lacking_lines(ring, lot, star))
                self.assertIs(stars.is_star_in(ring, lot, star), not lacking)

    def test_stars_stay_in_greater_lots(self):
        for ring in SMALL:
            for full in plain.full_lots(ring)[::7]:
                for lot in (full[1:], full[:-1], full[::2]):
                    self.assertLessEqual(set(stars.stars_in(ring, lot)), set(plain.stars_in(ring, full)))

    def groups(self, ring):
        """Sets of STARS: small ones, and such as are nearly those of a FULL LOT."""
        every = plain.all_stars(ring)
        found = [()] + [(own,) for own in every] + list(combinations(every, 2))[::17] + list(combinations(every, 3))[::401]
        for full in plain.full_lots(ring):
            own = plain.stars_in(ring, full)
            found += [own] + [tuple(star for star in own if star != other) for other in own]
            found += [tuple(sorted({*own, every[0]})), tuple(sorted({*own[1:], every[-1]}))]
        return found

    def test_lots_with_groups(self):
        for ring in FEW:
            of_group = {plain.stars_in(ring, full): full for full in plain.full_lots(ring)}
            self.assertEqual(len(plain.full_lots(ring)), len(of_group))
            long = plain.long_lines(ring)
            for group in self.groups(ring):
                lot = tuple(line for line in long if any(line in plain.star_lines(star) for star in group))
                if lot in plain.all_lots(ring):
                    self.assertEqual(lot, stars.lot_with_stars(ring, group))
                else:
                    self.assert_raises(CanNot, {}, stars.lot_with_stars, ring, group)
                if group in of_group:
                    self.assertEqual(of_group[group], stars.lot_of_stars(ring, group))
                else:
                    self.assert_raises(CanNot, {}, stars.lot_of_stars, ring, group)

    def test_the_star_left(self):
        for ring in FEW:
            left = {}
            for full in plain.full_lots(ring):
                own = plain.stars_in(ring, full)
                for star in own:
                    group = tuple(other for other in own if other != star)
                    # N - 1 of the STARS tell a FULL LOT
                    self.assertNotIn(group, left)
                    left[group] = star
            for group in self.groups(ring):
                if group in left:
                    self.assertEqual(left[group], stars.star_left(ring, group))
                else:
                    self.assert_raises(CanNot, {}, stars.star_left, ring, group)


class Edges(Raising):
    def test_one_star(self):
        for n, k in ((3, 1), (5, 2), (39, 19)):
            ring, star = (n, k), tuple(range(n))
            self.assertEqual(((star,), 1), (stars.stars_in(ring, ()), stars.how_many_stars(ring, ())))
            self.assertEqual((star, star), (stars.rim_star(ring, (), n - 1), stars.star_of_corner(ring, (), (0, k, k + 1))))
            self.assertEqual((), stars.stars_beside(ring, (), star))
            self.assertEqual(((), ()), (stars.lacking_lines(ring, (), star), stars.lot_with_stars(ring, (star,))))
            self.assertEqual((), stars.lot_of_stars(ring, (star,)))
            self.assertEqual((star, ()), (stars.star_left(ring, ()), stars.lot_with_stars(ring, ())))
            self.assertEqual(n, len(stars.common_lines(ring, star, star)))
            self.assertIs(stars.is_star_in(ring, (), star), True)
            for group in ((), ):
                self.assert_raises(CanNot, {}, stars.lot_of_stars, ring, group)
            self.assert_raises(CanNot, {}, stars.star_left, ring, (star,))

    def test_the_empty_lot_has_no_star(self):
        for ring in ((4, 1), (6, 2), (7, 2), (40, 19), (40, 1)):
            self.assertEqual(((), 0), (stars.stars_in(ring, ()), stars.how_many_stars(ring, ())))
            self.assertEqual((), stars.stars_at(ring, (), 3))
            self.assert_raises(CanNot, {}, stars.rim_star, ring, (), 0)

    def test_errors_and_their_order(self):
        seven, lot = (7, 2), ((0, 3), (0, 4), (2, 5))
        for bad in (-1, 7, 10 ** 6):
            for function in (stars.stars_at, stars.rim_star):
                self.assert_raises(NoPoint, {"point": bad}, function, seven, lot, bad)
        for bad in ((0, 1, 2, 3), (0, 1, 2, 3, 4, 5), (0, 1, 2, 3, 7), (-1, 0, 1, 2, 3), (0, 1, 2, 4, 3), (0, 0, 1, 2, 3), (), None):
            for function in (stars.stars_beside, stars.lacking_lines):
                self.assert_raises(Unfit, {}, function, seven, lot, bad)
            self.assert_raises(Unfit, {}, stars.lines_of_star, seven, bad)
            self.assert_raises(Unfit, {}, stars.common_lines, seven, (0, 1, 2, 3, 4), bad)
            for function in (stars.lot_with_stars, stars.lot_of_stars, stars.star_left):
                self.assert_raises(Unfit, {}, function, seven, (bad,))
        self.assert_raises(NoStar, {"star": (0, 1, 2, 3, 6)}, stars.stars_beside, seven, list(lot), [0, 1, 2, 3, 6])
        a, b = (0, 1, 2, 3, 4), (0, 1, 2, 3, 5)
        for group in ((b, a), (a, a), a, [b, a], {a: b}, None, (a, None)):
            for function in (stars.lot_with_stars, stars.lot_of_stars, stars.star_left):
                self.assert_raises(Unfit, {}, function, seven, group)

    def test_things(self):
        seven, lot = (7, 2), ((0, 3), (0, 4), (2, 5))
        for thing in ([0, 2, 3, 4, 5], (False, 2, 3, 4, 5), (0, 2, 3, 4), (0, 2, 3, 4, 5, 6), (0, 2, 3, 5, 4), (0, 2, 2, 3, 4), None,
                      (0, 2, 3, 4, 7), (-2, 0, 2, 3, 4), (0, 2, 3, 4, 5.0), ("0", 2, 3, 4, 5), (0, 2, 3, 4, nested(19, 5)), "02345",
                      ((0, 2, 3, 4, 5),), nested(20, 5), True, 5, (), (0, 2, 3, 4, None), (0, True, 3, 4, 5), tuple(range(9999))):
            self.assertIs(stars.is_star(seven, thing), False, thing)
            self.assertIs(stars.is_star_in(seven, lot, thing), False, thing)
        self.assertIs(stars.is_star(seven, (0, 2, 4, 5, 6)), True)
        self.assertIs(stars.is_star_in(seven, lot, (0, 2, 4, 5, 6)), False)
        self.assertIs(stars.is_star_in(seven, lot, (0, 2, 3, 4, 5)), True)


class GreatRings(Raising):
    def test_all_functions(self):
        for ring in GREAT:
            n, k = ring
            for full in great_full_lots(ring):
                own = stars.stars_in(ring, full)
                self.assertEqual(n - 2 * k, len(own))
                self.assertEqual(n - 2 * k, stars.how_many_stars(ring, full))
                self.assertEqual(full, stars.lot_of_stars(ring, own))
                self.assertEqual(full, stars.lot_with_stars(ring, own))
                self.assertEqual(own[1], stars.star_left(ring, own[:1] + own[2:])) if own[1:] else None
                often = [line for star in own for line in stars.lines_of_star(ring, star)]
                for line in full[::9]:
                    self.assertEqual(2, often.count(line))
                    self.assertEqual(2, len(stars.stars_of_line(ring, full, line)))
                for point in (0, n // 2, n - 1):
                    star = stars.rim_star(ring, full, point)
                    self.assertIn(star, stars.stars_at(ring, full, point))
                    corner = plain.star_corners(star)[point]
                    self.assertEqual(star, stars.star_of_corner(ring, full, corner))
                    near = stars.stars_beside(ring, full, star)
                    for other in own:
                        both = stars.common_lines(ring, star, other)
                        self.assertEqual(bool(set(both) & set(full)) and other != star, other in near)
                less = full[1:]
                left = stars.stars_in(ring, less)
                self.assertEqual(tuple(star for star in own if not full or full[0] not in plain.star_lines(star)), left)
                for star in own:
                    self.assertIs(stars.is_star(ring, star), True)
                    self.assertIs(stars.is_star_in(ring, less, star), star in left)
                    self.assertEqual(() if star in left else full[:1], stars.lacking_lines(ring, less, star))
                if full:
                    self.assert_raises(CanNot, {}, stars.lot_of_stars, ring, left)


if __name__ == "__main__":
    unittest.main()
