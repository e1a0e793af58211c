"""Rounds of full lots that differ in two lines, and how many exchanges lead from one to another."""

import unittest

from starsinaring import counts, exchange, filling, gaps, order, rounds
from starsinaring.errors import NoLine, TooMany, Unfit
from tests import plain
from tests.raising import Raising
from tests.rings import FURTHER_FULL, GREAT, SMALL, great_full_lots, some_full_lots

RINGS = SMALL + [(n, k) for n, k, _ in FURTHER_FULL]
# as many FULL LOTS as are few, of all rings to 40 points, and more
MOST, MORE = (35, 16), (37, 17)


def some_short_lots():
    """RINGS and LOTS of them with two LINES less than a FULL one."""
    found = []
    for ring in RINGS:
        n, k = ring
        lots = {full[:at] + full[at + 1:far] + full[far + 1:] for full in plain.full_lots(ring)[::1 if n < 8 else 5]
                for far in range(len(full)) for at in range(far)}
        found += [(ring, lot) for lot in sorted(lots)[::1 if len(lots) < 300 else 7]]
    return found


def round_of(ring, lot):
    """Round the FULL LOTS that have lot, by plain search."""
    found = plain.full_with(ring, lot)
    beside = {own: [far for far in found if len(set(own) & set(far)) == len(own) - 1 and is_exchange(ring, own, far)] for own in found}
    row = [found[0], min(beside[found[0]])]
    while len(row) < len(found):
        row += [far for far in beside[row[-1]] if far not in row]
    assert row[0] in beside[row[-1]] and all(len(beside[own]) == 2 for own in found)
    return tuple(row)


def is_exchange(ring, full, other):
    return any(plain.swapped(full, gone, come) == other for gone, come in plain.exchanges(ring)[full])


class SmallRings(Raising):
    """Each function beside a plain search over all FULL LOTS."""

    def test_rounds(self):
        for ring, lot in some_short_lots():
            told = round_of(ring, lot)
            self.assertEqual(told, rounds.round_of(ring, lot))
            self.assertEqual(len(told), rounds.round_size(ring, lot))
            self.assertIn(len(told), (3, 4, 5) if ring[1] > 1 else (4, 5))

    def test_sizes_that_come(self):
        for ring, sizes in {(6, 2): {3}, (5, 1): {5}, (6, 1): {4, 5}, (7, 2): {3, 4, 5}, (8, 3): {3}, (8, 2): {3, 4, 5}, (9, 3): {3, 4, 5}}.items():
            self.assertEqual(sizes, {rounds.round_size(ring, own) for other, own in some_short_lots() if other == ring})

    def test_sizes_by_shared_stars(self):
        for ring, lot in some_short_lots():
            for full in rounds.round_of(ring, lot):
                x, y = [line for line in full if line not in lot]
                shared = [star for star in plain.stars_in(ring, full) if {x, y} <= set(plain.star_lines(star))]
                size = rounds.round_size(ring, lot)
                self.assertEqual(size == 3, len(shared) == 2)
                self.assertTrue(size == 4 or shared)
                come = dict(plain.exchanges(ring)[full])
                both = tuple(sorted({*lot, come[x], come[y]}))
                self.assertEqual(size == 4, come[x] != come[y] and both in plain.full_lots(ring))

    def test_rounds_at(self):
        for ring, full in some_full_lots():
            told = []
            for at, line in enumerate(full):
                for other in full[at + 1:]:
                    rest = tuple(own for own in full if own not in (line, other))
                    told.append((line, other, len(plain.full_with(ring, rest))))
            self.assertEqual(told, rounds.rounds_at(ring, full))

    def test_shared_stars(self):
        for ring, full in some_full_lots()[::3]:
            for line in full:
                for other in full:
                    both = {line, other}
                    told = tuple(star for star in plain.stars_in(ring, full) if both <= set(plain.star_lines(star)))
                    self.assertEqual(told, rounds.shared_stars(ring, full, line, other))
                self.assertEqual(2, len(rounds.shared_stars(ring, full, line, line)))

    def test_steps(self):
        for ring in RINGS:
            lots = plain.full_lots(ring)
            far = 0
            for full in lots if len(lots) < 100 else lots[::41]:
                told = plain.steps_from(ring, full)
                many = list(told.values())
                self.assertEqual(tuple(many.count(own) for own in range(max(many) + 1)), rounds.by_steps(ring, full))
                far = max(far, *many)
                for other in {full, lots[0], lots[-1], lots[len(lots) // 3], list(told)[-1]}:
                    self.assertEqual(told[other], rounds.fewest(ring, full, other))
                    row = rounds.shortest_row(ring, full, other)
                    self.assertIsInstance(row, tuple)
                    self.assertEqual(told[other], len(row))
                    own = full
                    for step in row:
                        self.assertIn(step, plain.exchanges(ring)[own])
                        own = plain.swapped(own, *step)
                    self.assertEqual(other, own)
            if len(lots) < 100:
                self.assertEqual(far, rounds.far_apart(ring))
            else:
                self.assertGreaterEqual(rounds.far_apart(ring), far)

    def test_far_apart(self):
        for ring in [(8, 1), (10, 3), (9, 3)]:
            self.assertEqual(max(max(plain.steps_from(ring, full).values()) for full in plain.full_lots(ring)), rounds.far_apart(ring))
        # as is known of ways to cut polygons into triangles
        self.assertEqual([0, 1, 2, 4, 5, 7, 9, 11], [rounds.far_apart((n, 1)) for n in range(3, 11)])


class Edges(Raising):
    def test_one_full_lot(self):
        for ring in ((3, 1), (5, 2), (39, 19)):
            self.assertEqual([], rounds.rounds_at(ring, ()))
            self.assertEqual((0, (), (1,), 0), (rounds.fewest(ring, (), ()), rounds.shortest_row(ring, (), ()), rounds.by_steps(ring, ()), rounds.far_apart(ring)))
            self.assert_raises(Unfit, {}, rounds.round_of, ring, ())
            self.assert_raises(Unfit, {}, rounds.round_size, ring, ())
            self.assert_raises(NoLine, {"line": (0, 1)}, rounds.shared_stars, ring, (), (0, 1), (0, 2))

    def test_a_point_more(self):
        for n, k in ((6, 2), (8, 3), (40, 19)):
            halves = tuple((a, a + n // 2) for a in range(n // 2))
            for gone in ((0, 1, 2), (k - 2, k - 1, k)):
                lot = tuple(line for line in halves if line[0] not in gone)
                row = [tuple(sorted((*lot, halves[a], halves[b]))) for a, b in ((gone[0], gone[1]), (gone[0], gone[2]), (gone[1], gone[2]))]
                self.assertEqual((tuple(row), 3), (rounds.round_of((n, k), lot), rounds.round_size((n, k), lot)))
            least, last = halves[:-1], halves[1:]
            self.assertEqual((1, 0, 1), (rounds.fewest((n, k), least, last), rounds.fewest((n, k), last, last), rounds.far_apart((n, k))))
            self.assertEqual(((halves[0], halves[-1]),), rounds.shortest_row((n, k), least, last))
            self.assertEqual((1, k), rounds.by_steps((n, k), least))
        self.assertEqual((1, (1, 1)), (rounds.far_apart((4, 1)), rounds.by_steps((4, 1), ((0, 2),))))
        self.assert_raises(Unfit, {}, rounds.round_of, (4, 1), ())
        self.assert_raises(Unfit, {}, rounds.round_of, (4, 1), ((0, 2),))

    def test_lots_of_other_sizes(self):
        for ring, full in some_full_lots()[::19]:
            for lot in (full, full[1:], full[3:], ()):
                if len(lot) != len(full) - 2:
                    self.assert_raises(Unfit, {}, rounds.round_of, ring, lot)
                    self.assert_raises(Unfit, {}, rounds.round_size, ring, lot)
        # two LINES less, but no LOT
        for lot in (((0, 3), (1, 4), (2, 5), (3, 6)), ((0, 3), (0, 2)), ((1, 4), (0, 3)), ((0, 3), (0, 3)), ((0, 3), None)):
            self.assert_raises(Unfit, {}, rounds.round_of, (7, 2), lot)
        halves = ((0, 4), (1, 5), (2, 6), (3, 7))
        self.assert_raises(Unfit, {}, rounds.round_of, (8, 2), halves)
        self.assertIs(filling.is_full((8, 3), halves[:3]), True)

    def test_checks_of_lines(self):
        six, hand = (6, 2), ((0, 3), (1, 4))
        for line in ((2, 5), (0, 1), (0, 2), (3, 5)):
            self.assert_raises(NoLine, {"line": line}, rounds.shared_stars, six, hand, line, (0, 3))
            self.assert_raises(NoLine, {"line": line}, rounds.shared_stars, six, hand, (0, 3), list(line))
            self.assert_raises(NoLine, {"line": line}, rounds.shared_stars, six, hand, line, line)
            self.assert_raises(NoLine, {"line": line}, rounds.shared_stars, six, hand, line, (4, 5))
            self.assert_raises(Unfit, {}, rounds.shared_stars, six, hand, line, (3, 0))
        self.assert_raises(Unfit, {}, rounds.shared_stars, six, hand[:1], (2, 5), (0, 3))

    def test_few(self):
        for ring in (MOST, (10, 1), (12, 4)):
            least, last = order.least_full(ring), order.greatest_full(ring)
            many = rounds.by_steps(ring, least)
            self.assertEqual(counts.how_many_full(ring), sum(many))
            self.assertEqual(filling.full_size(ring), many[1] if ring[1] == 1 else len(least))
            row = rounds.shortest_row(ring, least, last)
            self.assertEqual(last, exchange.led_by(ring, least, row))
            self.assertEqual(len(row), rounds.fewest(ring, last, least))
            self.assertLessEqual(len(many) - 1, rounds.far_apart(ring))
        for ring in (MORE, (11, 1), (10, 2), (40, 1), (40, 17)):
            least, last = order.least_full(ring), order.greatest_full(ring)
            for function in (rounds.fewest, rounds.shortest_row):
                self.assert_raises(TooMany, {}, function, ring, least, last)
                self.assert_raises(TooMany, {}, function, ring, least, least)
                self.assert_raises(Unfit, {}, function, ring, least, least[1:])
                self.assert_raises(Unfit, {}, function, ring, (), last)
            self.assert_raises(TooMany, {}, rounds.by_steps, ring, last)
            self.assert_raises(Unfit, {}, rounds.by_steps, ring, last[1:])
            self.assert_raises(TooMany, {}, rounds.far_apart, ring)
        self.assert_raises(Unfit, {}, rounds.far_apart, (40, 20))


class GreatRings(Raising):
    def test_rounds(self):
        for ring in GREAT:
            for full in great_full_lots(ring):
                for at, far in ((0, 1), (0, len(full) - 1), (len(full) // 2, len(full) // 2 + 1)):
                    if 0 <= at < far < len(full):
                        lot = full[:at] + full[at + 1:far] + full[far + 1:]
                        row = rounds.round_of(ring, lot)
                        self.assertEqual(sorted(row), gaps.all_with(ring, lot))
                        self.assertEqual((min(row), min(row[1], row[-1])), row[:2])
                        self.assertEqual(len(row), rounds.round_size(ring, lot))
                        for own, other in zip(row, row[1:] + row[:1]):
                            self.assertIn(other, exchange.beside(ring, own))

    def test_rounds_at(self):
        for ring in GREAT:
            for full in great_full_lots(ring)[1:]:
                found = rounds.rounds_at(ring, full)
                self.assertEqual(len(full) * (len(full) - 1) // 2, len(found))
                self.assertEqual(sorted(set(found)), found)
                for line, other, size in found[::len(found) // 9 + 1]:
                    rest = tuple(own for own in full if own not in (line, other))
                    self.assertEqual(rounds.round_size(ring, rest), size)
                    shared = len(rounds.shared_stars(ring, full, line, other))
                    self.assertIn(size, {0: (4,), 1: (4, 5), 2: (3,)}[shared])


if __name__ == "__main__":
    unittest.main()
