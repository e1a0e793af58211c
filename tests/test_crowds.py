"""Crowds: sets of lines each two of which cross."""

import unittest
from itertools import combinations
from math import comb

from starsinaring import crowds
from starsinaring.errors import TooMany, Unfit
from tests import plain

TABLES = {n: plain.cross_table(n) for n in range(3, 10)}
EVERY = plain.all_lines(40)


def crossing_pairs(lines):
    return sum(a < c < b < d or c < a < d < b for (a, b), (c, d) in combinations(lines, 2))


def lines_with_pairs(n, most):
    """A set of LINES of n points that cross in so many sets of two, or in a few less."""
    found, many = [], 0
    for a, b in plain.all_lines(n):
        more = sum(c < a < d < b or a < c < b < d for c, d in found)
        if many + more <= most:
            found.append((a, b))
            many += more
    return tuple(found)


class Kinds(unittest.TestCase):
    def test_is_crowd_of_all_small_sets(self):
        for n, k in ((3, 1), (4, 1), (5, 1), (5, 2)):
            for lines in plain.subsets(plain.all_lines(n)):
                self.assertIs(crowds.is_crowd((n, k), lines), plain.is_crossing_set(TABLES[n], lines), lines)

    def test_is_crowd_of_few_lines(self):
        for n, k in ((6, 1), (7, 3), (8, 2)):
            for size in (0, 1, 2, 3):
                for lines in combinations(plain.all_lines(n), size):
                    self.assertIs(crowds.is_crowd((n, k), lines), plain.is_crossing_set(TABLES[n], lines), lines)

    def test_is_crowd_of_things(self):
        good = ((0, 4), (1, 5), (2, 6))
        for ring in ((7, 1), (7, 3), (40, 19)):
            self.assertIs(crowds.is_crowd(ring, good), True)
        for thing in ([*good], good[::-1], good + good[:1], good[:1] * 2, ((0, 4), [1, 5]), (0, 4), ((4, 0),), ((0, 7),), "",
                      None, ((0, 4, 5),), ((0, 4), 5), (good,), ((False, 4), (1, 5)), ((0, 4), (True, 5)), ((0, 4), None),
                      (None, (0, 4)), ("04",), ((-1, 4),), ((0, 4), (1, 4)), ((0, 4), (4, 6)), ((0, 4), (0, 5)), {}, 0, False):
            self.assertIs(crowds.is_crowd((7, 2), thing), False, thing)

    def test_is_crowd_of_long_things(self):
        half = tuple((a, a + 20) for a in range(20))
        self.assertIs(crowds.is_crowd((40, 1), half), True)
        self.assertIs(crowds.is_crowd((40, 19), half), True)
        self.assertIs(crowds.is_crowd((39, 19), half), False)
        self.assertIs(crowds.is_crowd((40, 1), EVERY), False)
        self.assertIs(crowds.is_crowd((40, 1), half * 5000), False)
        self.assertIs(crowds.is_crowd((40, 1), tuple((0, b) for b in range(1, 50000))), False)

    def test_crowds_and_their_ends(self):
        for n, k in ((3, 1), (7, 2), (8, 1), (9, 4)):
            for points in plain.subsets(range(n)):
                if len(points) % 2:
                    with self.assertRaises(Unfit):
                        crowds.crowd_of((n, k), points)
                    continue
                crowd = crowds.crowd_of((n, k), points)
                self.assertTrue(plain.is_crossing_set(TABLES[n], crowd))
                self.assertEqual(tuple(sorted(crowd)), crowd)
                self.assertEqual(list(points), sorted(end for line in crowd for end in line))
                self.assertEqual(points, crowds.points_of((n, k), crowd))
                self.assertIs(crowds.is_crowd((n, k), crowd), True)

    def test_great_crowds_and_their_ends(self):
        for points in (tuple(range(40)), tuple(range(0, 40, 2)), tuple(range(1, 40, 3))[:12], (0, 39), ()):
            half = len(points) // 2
            crowd = tuple(zip(points[:half], points[half:]))
            self.assertEqual(crowd, crowds.crowd_of((40, 3), points))
            self.assertEqual(points, crowds.points_of((40, 3), crowd))

    def test_how_many(self):
        for n in range(3, 8):
            for number in range(n):
                many = len(plain.crowds(TABLES[n], plain.all_lines(n), number)) if number < 4 else comb(n, 2 * number)
                self.assertEqual(many, crowds.how_many_crowds((n, 1), number))
                self.assertEqual(comb(n, 2 * number), crowds.how_many_crowds((n, (n - 1) // 2), number))
        for number in range(25):
            self.assertEqual(comb(40, 2 * number), crowds.how_many_crowds((40, 7), number))
        self.assertEqual(0, crowds.how_many_crowds((40, 7), 10 ** 6))


class SmallRings(unittest.TestCase):
    """Each function beside a plain search."""

    def each(self):
        for n, k in ((3, 1), (4, 1), (5, 2)):
            for lines in plain.subsets(plain.all_lines(n)):
                yield (n, k), lines
        for n, k, many in ((6, 1, 150), (6, 2, 50), (7, 2, 150), (8, 1, 100), (9, 4, 80)):
            for lines in plain.some_subsets(plain.all_lines(n), many, seed=n):
                yield (n, k), lines

    def test_greatest(self):
        for ring, lines in self.each():
            table = TABLES[ring[0]]
            most = plain.greatest(table, lines)
            self.assertEqual(most, crowds.how_great(ring, lines))
            crowd = crowds.greatest_crowd(ring, lines)
            self.assert_crowd_of(table, crowd, lines)
            self.assertEqual(most, len(crowd))
            self.assertIs(crowds.is_greatest_crowd(ring, lines, crowd), True)
            self.assertIs(crowds.is_greatest_crowd(ring, lines, crowd[1:]), not crowd)

    def assert_crowd_of(self, table, crowd, lines):
        self.assertIs(type(crowd), tuple)
        self.assertEqual(tuple(sorted(set(crowd))), crowd)
        self.assertLessEqual(set(crowd), set(lines))
        self.assertTrue(plain.is_crossing_set(table, crowd))

    def test_is_greatest(self):
        for ring, lines in self.each():
            if len(lines) > 6:
                continue
            table = TABLES[ring[0]]
            most = plain.greatest(table, lines)
            for own in plain.subsets(lines):
                expected = len(own) == most and plain.is_crossing_set(table, own)
                self.assertIs(crowds.is_greatest_crowd(ring, lines, own), expected)
            for own in combinations(plain.all_lines(ring[0]), most):
                expected = set(own) <= set(lines) and plain.is_crossing_set(table, own)
                self.assertIs(crowds.is_greatest_crowd(ring, lines, own), expected)

    def test_crowd_with(self):
        for ring, lines in self.each():
            table = TABLES[ring[0]]
            for line in plain.all_lines(ring[0]):
                crowd = crowds.crowd_with(ring, lines, line)
                self.assertIn(line, crowd)
                self.assert_crowd_of(table, crowd, lines + (line,))
                crossing = tuple(own for own in lines if (own, line) in table)
                self.assertEqual(1 + plain.greatest(table, crossing), len(crowd))

    def test_how_often(self):
        for ring, lines in self.each():
            pairs = [own for own in combinations(lines, 2) if own in TABLES[ring[0]]]
            self.assertEqual(len(pairs), crowds.how_often(ring, lines))

    def test_crowds_in(self):
        for ring, lines in self.each():
            if len(lines) > 14:
                continue
            for number in range(6):
                expected = plain.crowds(TABLES[ring[0]], lines, number)
                self.assertEqual(expected, crowds.crowds_in(ring, lines, number))

    def test_empty_sets(self):
        for ring in ((3, 1), (5, 2), (40, 1), (40, 19)):
            self.assertEqual([()], crowds.crowds_in(ring, (), 0))
            self.assertEqual([], crowds.crowds_in(ring, (), 1))
            self.assertEqual([], crowds.crowds_in(ring, (), 10 ** 6))
            self.assertEqual((0, (), 0), (crowds.how_great(ring, ()), crowds.greatest_crowd(ring, ()), crowds.how_often(ring, ())))
            self.assertEqual(((0, 2),), crowds.crowd_with(ring, (), (0, 2)))
            self.assertEqual(((0, 2),), crowds.crowd_with(ring, ((0, 2),), (0, 2)))
            self.assertIs(crowds.is_greatest_crowd(ring, (), ()), True)
            self.assertIs(crowds.is_greatest_crowd(ring, (), ((0, 2),)), False)
            self.assertIs(crowds.is_greatest_crowd(ring, ((0, 2),), ()), False)
            self.assertEqual(((), ()), (crowds.crowd_of(ring, ()), crowds.points_of(ring, ())))
            self.assertEqual(1, crowds.how_many_crowds(ring, 0))


class TooManyCrowds(unittest.TestCase):
    def test_just_so_many_and_one_more(self):
        lines = lines_with_pairs(40, 2000)
        self.assertEqual(2000, crossing_pairs(lines))
        expected = [own for own in combinations(lines, 2) if crossing_pairs(own)]
        self.assertEqual(expected, crowds.crowds_in((40, 3), lines, 2))
        more = lines_with_pairs(40, 2001)
        self.assertEqual(2001, crossing_pairs(more))
        with self.assertRaises(TooMany):
            crowds.crowds_in((40, 3), more, 2)

    def test_one_more_at_the_end(self):
        # the last set of two comes to be one too many only when all others are told
        lines = lines_with_pairs(40, 2000)
        less = [own for own in lines if crossing_pairs(tuple(other for other in lines if other != own)) < 1999]
        for own in less[-3:]:
            kept = tuple(other for other in lines if other != own)
            self.assertEqual(crossing_pairs(kept), len(crowds.crowds_in((40, 9), kept, 2)))

    def test_three_at_once(self):
        for n, number in ((14, 3), (15, 3), (16, 2), (13, 4), (16, 7), (40, 20), (40, 1), (40, 0)):
            many = comb(n, 2 * number)
            lines = plain.all_lines(n)
            if many > 2000:
                with self.assertRaises(TooMany):
                    crowds.crowds_in((n, 1), lines, number)
            else:
                found = crowds.crowds_in((n, 1), lines, number)
                half = [tuple(zip(own[:number], own[number:])) for own in combinations(range(n), 2 * number)]
                self.assertEqual(sorted(half), found)

    def test_great_rings_answer(self):
        for number in range(2, 20):
            if number != 19:
                with self.assertRaises(TooMany):
                    crowds.crowds_in((40, 5), EVERY, number)
        self.assertEqual(780, len(crowds.crowds_in((40, 5), EVERY, 19)))
        self.assertEqual([], crowds.crowds_in((40, 5), EVERY, 21))
        self.assertEqual([], crowds.crowds_in((40, 5), tuple(own for own in EVERY if own[1] - own[0] < 9), 9))


class GreatRings(unittest.TestCase):
    def test_all_lines(self):
        for k in (1, 5, 19):
            ring = (40, k)
            self.assertEqual(20, crowds.how_great(ring, EVERY))
            half = tuple((a, a + 20) for a in range(20))
            self.assertEqual(half, crowds.greatest_crowd(ring, EVERY))
            self.assertIs(crowds.is_greatest_crowd(ring, EVERY, half), True)
            self.assertIs(crowds.is_greatest_crowd(ring, EVERY, half[1:]), False)
            self.assertEqual(comb(40, 4), crowds.how_often(ring, EVERY))
        for line in EVERY[::13]:
            steps = line[1] - line[0]
            crowd = crowds.crowd_with((40, 1), EVERY, line)
            self.assertEqual(min(steps, 40 - steps), len(crowd))
            self.assertIn(line, crowd)
            self.assertEqual(comb(len(crowd), 2), crossing_pairs(crowd))

    def test_lines_that_are_not_too_long(self):
        for most in range(1, 21):
            lines = tuple((a, b) for a, b in EVERY if min(b - a, 40 - b + a) <= most)
            crowd = crowds.greatest_crowd((40, 3), lines)
            self.assertEqual(most, len(crowd))
            self.assertEqual(comb(most, 2), crossing_pairs(crowd))
            self.assertIs(crowds.is_greatest_crowd((40, 3), lines, crowd), True)
            self.assertIs(crowds.is_greatest_crowd((40, 3), EVERY, crowd), most == 20)

    def test_lines_without_a_crowd(self):
        fan = tuple((0, b) for b in range(1, 40))
        side = tuple((a, a + 1) for a in range(39))
        for lines in (fan, side):
            self.assertEqual(1, crowds.how_great((40, 2), lines))
            self.assertEqual(0, crowds.how_often((40, 2), lines))
            self.assertEqual(39, len(crowds.crowds_in((40, 2), lines, 1)))
            self.assertEqual([], crowds.crowds_in((40, 2), lines, 2))
        self.assertEqual(((0, 5), (4, 39)), crowds.crowd_with((40, 2), fan[4:5] + side[1:], (4, 39)))

    def test_some_lines(self):
        for lines in plain.some_subsets(EVERY, 12, seed=40):
            self.assertEqual(crossing_pairs(lines), crowds.how_often((40, 2), lines))
            crowd = crowds.greatest_crowd((40, 2), lines)
            self.assertEqual(comb(len(crowd), 2), crossing_pairs(crowd))
            self.assertLessEqual(set(crowd), set(lines))
            # no CROWD with any one of lines is greater, and some one is as great
            self.assertEqual(len(crowd), max([len(crowds.crowd_with((40, 2), lines, own)) for own in lines], default=0))


if __name__ == "__main__":
    unittest.main()
