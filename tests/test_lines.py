"""Lines of a ring."""

import unittest

from starsinaring import lines
from starsinaring.errors import CanNot, NoPoint
from tests import plain

GREAT = [(40, 1), (40, 2), (40, 7), (40, 18), (40, 19), (39, 19), (39, 1), (37, 5)]


class Rings(unittest.TestCase):
    def test_is_ring(self):
        for n in range(-3, 12):
            for k in range(-3, 8):
                self.assertIs(lines.is_ring((n, k)), k >= 1 and n >= 2 * k + 1, (n, k))
        for thing in ((40, 19), (3, 1), (10 ** 100, 5), (2 * 10 ** 50 + 1, 10 ** 50)):
            self.assertIs(lines.is_ring(thing), True, thing)
        for thing in ((2 * 10 ** 50, 10 ** 50), (7, True), (True, 1), [7, 2], (7, 2, 1), (7,), (), None, "72", (7.0, 2)):
            self.assertIs(lines.is_ring(thing), False, thing)

    def test_is_line(self):
        for ring in ((3, 1), (7, 2), (7, 3), (40, 19)):
            n, _ = ring
            for a in range(-2, n + 2):
                for b in range(-2, n + 2):
                    self.assertIs(lines.is_line(ring, (a, b)), 0 <= a < b < n, (ring, a, b))
        for thing in ((0, True), (False, 1), [0, 1], (0, 1, 2), (0,), (), None, 5, "01", (0, 1.0), (0, "1"), ((0, 1),)):
            self.assertIs(lines.is_line((7, 2), thing), False, thing)


class SmallRings(unittest.TestCase):
    """Each function beside a plain search."""

    def test_lines_of_each_kind(self):
        for ring in plain.rings_to(11):
            n, k = ring
            long, rim = plain.long_lines(ring), plain.rim_lines(ring)
            self.assertEqual(long, lines.long_lines(ring))
            self.assertEqual(rim, lines.rim_lines(ring))
            self.assertEqual(len(long), lines.how_many_long(ring))
            self.assertEqual(n, len(rim))
            self.assertEqual(n * (n - 2 * k - 1) // 2, len(long))
            for line in plain.all_lines(n):
                self.assertEqual(plain.length(n, line), lines.length_of(ring, line))
                kind = "long" if line in long else "rim" if line in rim else "short"
                self.assertEqual(kind, lines.kind_of(ring, line))
            for point in range(n):
                self.assertEqual(tuple(line for line in long if point in line), lines.long_at(ring, point))

    def test_numbers_of_lines(self):
        for ring in plain.rings_to(11):
            long = plain.long_lines(ring)
            for number, line in enumerate(long):
                self.assertEqual(number, lines.line_number(ring, line))
                self.assertEqual(line, lines.line_at(ring, number))
            for number in (len(long), len(long) + 1, 10 ** 6):
                with self.assertRaises(CanNot):
                    lines.line_at(ring, number)
            for line in plain.all_lines(ring[0]):
                if line not in long:
                    with self.assertRaises(CanNot):
                        lines.line_number(ring, line)

    def test_ways_up(self):
        for n in range(3, 10):
            ring = (n, 1)
            for point in range(n):
                for far in range(n):
                    between = plain.walk_between(n, point, far)
                    self.assertEqual(between, lines.strictly_between(ring, point, far))
                    steps = 0 if point == far else len(between) + 1
                    self.assertEqual(steps, lines.steps_up(ring, point, far))

    def test_sides_and_crossers(self):
        for ring in plain.rings_to(8):
            n, k = ring
            every = plain.all_lines(n)
            for line in every:
                sides = (plain.walk_between(n, *line), plain.walk_between(n, line[1], line[0]))
                self.assertEqual(sides, lines.sides_of(ring, line))
                crossed = tuple(other for other in every if plain.crosses(n, line, other))
                self.assertEqual(len(sides[0]) * len(sides[1]), len(crossed))
                for other in every:
                    self.assertIs(lines.do_cross(ring, line, other), other in crossed)
                    self.assertIs(lines.do_cross(ring, other, line), other in crossed)
                long = tuple(other for other in crossed if plain.length(n, other) > k)
                self.assertEqual(long, lines.crossers(ring, line))

    def test_points_that_are_none(self):
        for point, far, none in ((8, 9, 8), (0, 8, 8), (8, 0, 8), (-1, 8, -1), (8, -1, 8), (7, -5, -5)):
            for function in (lines.steps_up, lines.strictly_between):
                with self.assertRaises(NoPoint) as caught:
                    function((8, 2), point, far)
                self.assertEqual({"point": none}, vars(caught.exception))

    def test_no_long_lines(self):
        for ring in ((3, 1), (5, 2), (39, 19)):
            self.assertEqual((), lines.long_lines(ring))
            self.assertEqual(0, lines.how_many_long(ring))
            self.assertEqual((), lines.long_at(ring, 2))
            self.assertEqual((), lines.crossers(ring, (0, 2)))
            with self.assertRaises(CanNot):
                lines.line_at(ring, 0)
            with self.assertRaises(CanNot):
                lines.line_number(ring, (0, 1))


class GreatRings(unittest.TestCase):
    def test_all_functions(self):
        for ring in GREAT:
            n, k = ring
            long = tuple((a, b) for a, b in plain.all_lines(n) if min(b - a, n - b + a) > k)
            self.assertEqual(long, lines.long_lines(ring))
            self.assertEqual(len(long), lines.how_many_long(ring))
            self.assertEqual(n, len(lines.rim_lines(ring)))
            self.assertEqual(list(lines.rim_lines(ring)), sorted({tuple(sorted((p, (p + k) % n))) for p in range(n)}))
            for number in range(0, len(long), 17):
                self.assertEqual(long[number], lines.line_at(ring, number))
                self.assertEqual(number, lines.line_number(ring, long[number]))
            for point in (0, 1, n // 2, n - 1):
                self.assertEqual(tuple(own for own in long if point in own), lines.long_at(ring, point))
                self.assertEqual((n - 1 - point, 0), (lines.steps_up(ring, point, n - 1), lines.steps_up(ring, point, point)))

    def test_all_lines_of_a_great_ring(self):
        ring = (40, 3)
        for a, b in plain.all_lines(40):
            steps = min(b - a, 40 - b + a)
            self.assertEqual(steps, lines.length_of(ring, (a, b)))
            self.assertEqual("short" if steps < 3 else "rim" if steps == 3 else "long", lines.kind_of(ring, (a, b)))
            inner, outer = lines.sides_of(ring, (a, b))
            self.assertEqual(tuple(range(a + 1, b)), inner)
            self.assertEqual(tuple(range(b + 1, 40)) + tuple(range(a)), outer)
            self.assertEqual(outer, lines.strictly_between(ring, b, a))
            self.assertEqual(40 - b + a, lines.steps_up(ring, b, a))
            long = [(c, d) for c in inner for d in outer if min(abs(d - c), 40 - abs(d - c)) > 3]
            self.assertEqual(tuple(sorted(tuple(sorted(own)) for own in long)), lines.crossers(ring, (a, b)))
            self.assertIs(lines.do_cross(ring, (a, b), (5, 20)), (a < 5 < b < 20 or 5 < a < 20 < b))


if __name__ == "__main__":
    unittest.main()
