"""Counts of full lots, and full lots told by number."""

import unittest
from itertools import product
from math import comb

from starsinaring import counts, filling, order
from starsinaring.errors import CanNot, NoPoint, TooMany, Unfit
from tests import plain
from tests.raising import Raising
from tests.rings import FURTHER_FULL, GREAT, NARROW, SMALL, great_full_lots

RINGS = SMALL + [(n, k) for n, k, _ in FURTHER_FULL]
# as many FULL LOTS as are few, of all rings to 40 points, and more
MOST, MORE = (35, 16), (37, 17)
LANED = (counts.full_number, counts.next_full)


def catalan(number):
    return comb(2 * number, number) // (number + 1)


def by_product(ring):
    """How many FULL LOTS a RING has: the product of (i + j + 2 k) / (i + j)."""
    n, k = ring
    above = below = 1
    for j in range(1, n - 2 * k):
        for i in range(1, j + 1):
            above, below = above * (i + j + 2 * k), below * (i + j)
    return above // below


def by_determinant(ring):
    n, k = ring
    return plain.determinant([[catalan(n - i - j) for j in range(1, k + 1)] for i in range(1, k + 1)])


class BracketRows(Raising):
    def test_plain_search(self):
        for number in range(9):
            self.assertEqual(len(plain.bracket_rows(number)), counts.bracket_rows(number))

    def test_to_a_thousand(self):
        told = [1]
        for number in range(1, 1001):
            # from one to the next, by whole numbers
            told.append(told[-1] * (4 * number - 2) // (number + 1))
        for number in (0, 1, 2, 35, 500, 999, 1000):
            self.assertEqual(told[number], counts.bracket_rows(number))

    def test_above_a_thousand(self):
        self.assertEqual(catalan(1000), counts.bracket_rows(1000))
        for number in (1001, 1002, 1023, 1024, 2000, 10 ** 4, 10 ** 6, 10 ** 30, 10 ** 1000):
            self.assert_raises(Unfit, {}, counts.bracket_rows, number)

    def test_numbers_elsewhere_are_of_any_size(self):
        ring, many = (40, 17), by_product((40, 17))
        self.assertGreater(many, 10 ** 6)
        for number in (1001, 10 ** 6, many - 1):
            self.assertEqual(number, counts.full_number(ring, counts.full_at(ring, number)))
        self.assert_raises(CanNot, {}, counts.full_at, ring, 10 ** 1000)

    def test_each_is_told_by_lesser_ones(self):
        told = [counts.bracket_rows(number) for number in range(80)]
        for number in range(79):
            self.assertEqual(sum(told[at] * told[number - at] for at in range(number + 1)), told[number + 1])


class HowMany(Raising):
    def test_plain_search(self):
        for ring in RINGS:
            self.assertEqual(len(plain.full_lots(ring)), counts.how_many_full(ring))
            self.assertEqual(by_determinant(ring), counts.how_many_full(ring))

    def test_to_forty_points(self):
        for n in range(3, 41):
            for k in range(1, (n - 1) // 2 + 1):
                self.assertEqual(by_product((n, k)), counts.how_many_full((n, k)))
                if k <= 6:
                    self.assertEqual(by_determinant((n, k)), counts.how_many_full((n, k)))
            self.assertEqual(catalan(n - 2), counts.how_many_full((n, 1)))
        for k in range(1, 20):
            self.assertEqual((1, k + 1), (counts.how_many_full((2 * k + 1, k)), counts.how_many_full((2 * k + 2, k))))

    def test_sheaves(self):
        for ring in [(3, 1), (4, 1), (5, 1), (5, 2), (6, 1), (6, 2), (7, 1), (7, 2), (7, 3), (8, 2), (8, 3), (9, 3), (9, 2), (10, 4)]:
            told = plain.sheaves(ring)
            self.assertEqual(told, counts.sheaves(ring))
            self.assertEqual(len(told), counts.how_many_full(ring))
            for own in told:
                self.assertIs(counts.is_sheaf(ring, own), True)

    def test_all_choices_of_rows(self):
        for n, k in [(3, 1), (4, 1), (5, 1), (5, 2), (6, 2), (7, 3)]:
            texts = ["".join(signs) for signs in product("()", repeat=2 * (n - 2 * k))]
            told = set(plain.sheaves((n, k)))
            for own in product(texts, repeat=k):
                self.assertIs(counts.is_sheaf((n, k), own), own in told)

    def test_no_sheaves(self):
        good = ("()(())", "(()())")
        ring = (7, 2)
        self.assertIs(counts.is_sheaf(ring, good), True)
        for thing in (good[::-1], list(good), good[:1], good[1:], good + good[1:], (), None, True, "()(())", ("()(())", None),
                      ("()(())", ["(()())"]), ("()(())", ("(()())",)), (("()(())", "(()())"),), ("()(())", "(())"), ("(())", "(())"),
                      ("()(())", "(())()()"), ("()(()))", "(()())"), ("())(()", "(()())"), (")(()()", "(()())"), ("()(())", "(())) "), ("()(())", "(()()) "), ("()(())", "((()())"), ("()(())", "(()())("), ("()(())", "(()()x"), ("()(())", "((x)))"),
                      ("()(())", "(()))("), ("((()))", "(()())"), ("()(())", 5), (0, 0), ("", ""), ("()(())", "[[]][]"), ("((((((", "((((((")):
            self.assertIs(counts.is_sheaf(ring, thing), False, thing)

    def test_few_sheaves(self):
        for ring in (MOST, (10, 1), (12, 4), (40, 19), (39, 19)):
            found = counts.sheaves(ring)
            self.assertEqual(counts.how_many_full(ring), len(found))
            self.assertEqual(sorted(set(found)), found)
            self.assertTrue(all(counts.is_sheaf(ring, own) for own in found[::97]))
        for ring in (MORE, (11, 1), (10, 2), (40, 1), (40, 17)):
            self.assert_raises(TooMany, {}, counts.sheaves, ring)


class SmallRings(Raising):
    """Each function beside a plain search over all FULL LOTS."""

    def test_by_number(self):
        for ring in RINGS:
            lots = plain.full_lots(ring)
            for number in sorted({*range(min(len(lots), 20)), *range(0, len(lots), 7), len(lots) - 1}):
                self.assertEqual(lots[number], counts.full_at(ring, number))
                self.assertEqual(number, counts.full_number(ring, lots[number]))
                behind = lots[number + 1] if number + 1 < len(lots) else None
                self.assertEqual(behind, counts.next_full(ring, lots[number]))
            for number in (len(lots), len(lots) + 1, 10 ** 50):
                self.assert_raises(CanNot, {}, counts.full_at, ring, number)

    def test_how_many_with(self):
        for ring in RINGS:
            long = plain.long_lines(ring)
            sides = list(zip(plain.some_subsets(long, 30, 5), plain.some_subsets(long, 30, 6)))
            sides += [(own[:2], far[:2]) for own, far in sides] + [(own[:3], ()) for own, _ in sides] + [((), own[-3:]) for own, _ in sides]
            sides += [((), ()), ((), long), (long, ()), (long, long)] + [((line,), ()) for line in long] + [((), (line,)) for line in long]
            for inside, outside in sides:
                told = len(plain.full_with(ring, inside, outside))
                self.assertEqual(told, counts.how_many_with(ring, inside, outside))

    def test_by_point(self):
        for ring in RINGS:
            for point in range(ring[0]):
                many = [len([line for line in lot if point in line]) for lot in plain.full_lots(ring)]
                told = tuple(many.count(own) for own in range(max(many) + 1))
                self.assertEqual(told, counts.by_point(ring, point))


class Edges(Raising):
    def test_one_full_lot(self):
        for n, k in ((3, 1), (5, 2), (7, 3), (39, 19)):
            ring = (n, k)
            self.assertEqual((1, 1), (counts.how_many_full(ring), counts.how_many_with(ring, (), ())))
            self.assertEqual([("()",) * k], counts.sheaves(ring))
            self.assertEqual(((), 0), (counts.full_at(ring, 0), counts.full_number(ring, ())))
            self.assertIsNone(counts.next_full(ring, ()))
            self.assertEqual((1,), counts.by_point(ring, n - 1))
            self.assert_raises(CanNot, {}, counts.full_at, ring, 1)

    def test_a_point_more(self):
        for n, k in ((4, 1), (6, 2), (8, 3), (40, 19)):
            halves = tuple((a, a + n // 2) for a in range(n // 2))
            lots = [halves[:at] + halves[at + 1:] for at in reversed(range(k + 1))]
            self.assertEqual(lots, [counts.full_at((n, k), number) for number in range(k + 1)])
            self.assertEqual(list(range(k + 1)), [counts.full_number((n, k), lot) for lot in lots])
            self.assertEqual(lots[1:] + [None], [counts.next_full((n, k), lot) for lot in lots])
            self.assertEqual((1, k), counts.by_point((n, k), 1))
            self.assertEqual((k, 1), (counts.how_many_with((n, k), halves[:1], ()), counts.how_many_with((n, k), (), halves[-1:])))
            self.assert_raises(CanNot, {}, counts.full_at, (n, k), k + 1)

    def test_lanes(self):
        for ring in ((8, 1), (10, 2), (12, 3), (40, 17)):
            least = order.least_full(ring)
            self.assertEqual(least, counts.full_at(ring, 0))
            self.assertEqual(counts.how_many_full(ring), counts.how_many_with(ring, (), ()))
            self.assertEqual(counts.how_many_full(ring), sum(counts.by_point(ring, 3)))
            self.assertEqual((0, counts.full_at(ring, 1)), (counts.full_number(ring, least), counts.next_full(ring, least)))
        for ring in ((9, 1), (11, 2), (13, 3), (39, 16), (40, 1), (40, 16)):
            least = order.least_full(ring)
            self.assert_raises(TooMany, {}, counts.how_many_with, ring, (), ())
            self.assert_raises(TooMany, {}, counts.how_many_with, ring, least[:1], least[:1])
            self.assert_raises(TooMany, {}, counts.full_at, ring, 0)
            self.assert_raises(TooMany, {}, counts.full_at, ring, by_product(ring) - 1)
            self.assert_raises(TooMany, {}, counts.by_point, ring, 0)
            for function in LANED:
                self.assert_raises(TooMany, {}, function, ring, least)
            self.assertEqual(by_product(ring), counts.how_many_full(ring))

    def test_order_of_errors(self):
        nine, lot = (9, 1), order.least_full((9, 1))
        for number in (by_product(nine), 10 ** 40):
            self.assert_raises(CanNot, {}, counts.full_at, nine, number)
        for number in (-1, True, None, "0", 0.0):
            self.assert_raises(Unfit, {}, counts.full_at, nine, number)
        for function in LANED:
            for own in (lot[1:], (), lot[::-1], lot + ((1, 8),), ((0, 1),) + lot, None):
                self.assert_raises(Unfit, {}, function, nine, own)
        self.assert_raises(Unfit, {}, counts.how_many_with, nine, ((0, 1),), ())
        self.assert_raises(Unfit, {}, counts.how_many_with, nine, (), ((0, 8),))
        self.assert_raises(Unfit, {}, counts.how_many_with, nine, (), ((0, 4), (0, 3)))
        self.assert_raises(Unfit, {}, counts.by_point, nine, True)
        self.assert_raises(NoPoint, {"point": 9}, counts.by_point, nine, 9)
        self.assert_raises(NoPoint, {"point": -1}, counts.by_point, nine, -1)
        self.assert_raises(Unfit, {}, counts.bracket_rows, -1)
        self.assert_raises(Unfit, {}, counts.sheaves, (40, 20))


class GreatRings(Raising):
    def test_all_rings(self):
        for ring in GREAT:
            self.assertEqual(by_product(ring), counts.how_many_full(ring))
            n, k = ring
            rows = n - 2 * k
            self.assertIs(counts.is_sheaf(ring, ("()" * rows,) * k), True)
            self.assertIs(counts.is_sheaf(ring, ("()" * rows,) * (k - 1) + ("(" * rows + ")" * rows,)), True)
            self.assertIs(counts.is_sheaf(ring, ("(" * rows + ")" * rows,) + ("()" * rows,) * (k - 1)), rows == 1 or k == 1)

    def test_narrow_rings(self):
        for ring in NARROW:
            many = counts.how_many_full(ring)
            numbers = sorted(own for own in {0, 1, many // 7, many // 3, many // 2, many - 2, many - 1} if 0 <= own < many)
            lots = [counts.full_at(ring, number) for number in numbers]
            self.assertEqual(sorted(lots), lots)
            self.assertEqual(numbers, [counts.full_number(ring, lot) for lot in lots])
            self.assertTrue(all(filling.is_full(ring, lot) for lot in lots))
            self.assertIsNone(counts.next_full(ring, lots[-1]))
            self.assertEqual(lots[-1], order.greatest_full(ring))
            for number, lot in list(zip(numbers, lots))[:-1]:
                self.assertEqual(counts.full_at(ring, number + 1), counts.next_full(ring, lot))
            self.assertEqual(counts.by_point(ring, 0), counts.by_point(ring, ring[0] - 1))
            self.assertEqual(many, sum(counts.by_point(ring, 2)))
            for lot in great_full_lots(ring):
                self.assertEqual(lot, counts.full_at(ring, counts.full_number(ring, lot)))
                self.assertEqual(1, counts.how_many_with(ring, lot, ()))
                for line in lot[:2]:
                    self.assertEqual(many, counts.how_many_with(ring, (line,), ()) + counts.how_many_with(ring, (), (line,)))
                    self.assertEqual(0, counts.how_many_with(ring, (line,), (line,)))


if __name__ == "__main__":
    unittest.main()
