"""Particles: low wires, what holds them, and which fall short."""

import unittest
from itertools import combinations

from starsinaring import particles
from starsinaring.errors import CanNot
from tests import plain

WHOLE = [(3, 1), (4, 1), (5, 1), (5, 2), (6, 1), (6, 2), (7, 2), (7, 3), (8, 3), (9, 3), (9, 4)]
SOME = [(7, 1, 250), (8, 2, 350), (8, 1, 120), (9, 2, 120), (10, 3, 120), (11, 4, 60)]
GREAT = [(40, 1), (40, 2), (40, 6), (40, 13), (40, 18), (40, 19), (39, 19), (37, 3)]


def drawings():
    """RINGS, each with all its DRAWINGS or with some of them."""
    found = [(ring, plain.subsets(plain.long_lines(ring))) for ring in WHOLE]
    for n, k, many in SOME:
        long = plain.long_lines((n, k))
        found.append(((n, k), plain.some_subsets(long, many, seed=n) + [(), long]))
    return found


def holder(ring, drawing, lanes, low, index, run):
    """What holds the low one, as the document tells it; ones are counted from above."""
    n, k = ring
    lane = lanes[run + 1][low - index]
    line = (run, run + k + lane)
    if line in plain.long_lines(ring) and line in drawing:
        return line
    if index > 1 and lanes[run][low - (index - 1)] == lane + 1:
        return "above"
    return "end"


def noted_lines(ring, drawing, lanes, low, index):
    found = []
    for run in range(ring[1] + index - 1, -1, -1):
        held = holder(ring, drawing, lanes, low, index, run)
        if held == "above":
            index -= 1
        else:
            found.append(held)
    return tuple(sorted(found))


class SmallRings(unittest.TestCase):
    def test_lanes(self):
        for ring, told in drawings():
            top = ring[0] - 2 * ring[1]
            for drawing in told:
                for low in range(1, top):
                    lanes = plain.low_lanes(ring, drawing, low)
                    self.assertEqual(lanes, particles.low_lanes(ring, drawing, low))
                    for index in range(1, low + 1):
                        way = tuple(own[low - index] for own in lanes)
                        self.assertEqual(way, particles.lanes_of_low(ring, drawing, low, index))
                        self.assertIs(particles.comes(ring, drawing, low, index), way[-1] == top + 1 - index)
                    below = len([lane for lane in lanes[-1] if lane <= top - low])
                    self.assertEqual(below, particles.how_many_below(ring, drawing, low))

    def test_holders(self):
        for ring, told in drawings():
            for drawing in told[::5]:
                for low in range(1, ring[0] - 2 * ring[1]):
                    lanes = plain.low_lanes(ring, drawing, low)
                    for index in range(1, low + 1):
                        for run in range(ring[0] - ring[1] - 1):
                            expected = holder(ring, drawing, lanes, low, index, run)
                            self.assertEqual(expected, particles.held_by(ring, drawing, low, index, run))

    def test_a_drawing_is_a_lot_if_all_come(self):
        for ring, told in drawings():
            top = ring[0] - 2 * ring[1]
            lots = set(plain.lots_of(ring, told))
            for drawing in told:
                short = [
                    (low, index) for low in range(1, top) for index in range(1, low + 1)
                    if plain.low_lanes(ring, drawing, low)[-1][low - index] != top + 1 - index
                ]
                self.assertIs(particles.all_come(ring, drawing), not short)
                self.assertEqual(drawing in lots, not short)
                self.assertEqual(short[0] if short else None, particles.falls_short(ring, drawing))
                for low, index in short:
                    self.assertTrue(all((low, own) in short for own in range(index, low + 1)))

    def test_rows_of_fields(self):
        for ring, told in drawings():
            for drawing in told[::7]:
                for low in range(1, ring[0] - 2 * ring[1]):
                    more = plain.longest_row(ring, drawing, low) - ring[1]
                    self.assertEqual(more, particles.how_many_below(ring, drawing, low))

    def test_read_back(self):
        for ring, told in drawings():
            n, k = ring
            top = n - 2 * k
            for drawing in told[::3]:
                for low in range(1, top):
                    lanes = plain.low_lanes(ring, drawing, low)
                    for index in range(1, low + 1):
                        if lanes[-1][low - index] == top + 1 - index:
                            with self.assertRaises(CanNot):
                                particles.read_back(ring, drawing, low, index)
                            continue
                        read = particles.read_back(ring, drawing, low, index)
                        self.assertEqual(noted_lines(ring, drawing, lanes, low, index), read)
                        self.assertNotIn("end", read)
                        self.assertGreater(len(read), k)
                        self.assertTrue(all(a < c and b < d for (a, b), (c, d) in zip(read, read[1:])))
                        self.assertTrue(all(plain.crosses(n, *own) for own in combinations(read[:k + 1], 2)))

    def test_noted(self):
        for ring, told in drawings():
            n, k = ring
            table = plain.cross_table(n)
            for drawing in told[::3]:
                crowds = plain.crowds(table, drawing, k + 1)
                if not crowds:
                    with self.assertRaises(CanNot):
                        particles.noted(ring, drawing)
                else:
                    self.assertIn(particles.noted(ring, drawing), crowds)

    def test_is_noted(self):
        for ring in ((5, 1), (6, 1), (6, 2), (7, 2), (8, 3)):
            long = plain.long_lines(ring)
            table = plain.cross_table(ring[0])
            for drawing in plain.some_subsets(long, 15, seed=3) + [long]:
                crowds = plain.crowds(table, drawing, ring[1] + 1)
                for size in (ring[1], ring[1] + 1, ring[1] + 2):
                    for thing in combinations(long, size):
                        self.assertIs(particles.is_noted(ring, drawing, thing), thing in crowds)
                for thing in crowds[:3]:
                    self.assertIs(particles.is_noted(ring, drawing, thing[::-1]), False)
                    self.assertIs(particles.is_noted(ring, drawing, list(thing)), False)
                    self.assertIs(particles.is_noted(ring, drawing, thing[:-1] + (list(thing[-1]),)), False)

    def test_least_width(self):
        for n in range(3, 11):
            table = plain.cross_table(n)
            every = plain.all_lines(n)
            told = plain.subsets(every) if n < 5 else plain.some_subsets(every, 60, seed=n) + [every, every[:1], ()]
            for lines in told:
                most = plain.greatest(table, lines)
                for k in range(1, (n + 1) // 2):
                    self.assertEqual(most, particles.least_width((n, k), lines))

    def test_edges(self):
        for ring in ((3, 1), (5, 2), (39, 19)):
            self.assertIsNone(particles.falls_short(ring, ()))
            self.assertIs(particles.all_come(ring, ()), True)
            for low in (0, 1, 2):
                with self.assertRaises(CanNot):
                    particles.low_lanes(ring, (), low)
                with self.assertRaises(CanNot):
                    particles.how_many_below(ring, (), low)
                with self.assertRaises(CanNot):
                    particles.comes(ring, (), low, 1)
            with self.assertRaises(CanNot):
                particles.noted(ring, ())
            self.assertIs(particles.is_noted(ring, (), ()), False)

    def test_low_and_index_and_run(self):
        ring, drawing = (9, 2), ((0, 3), (1, 4))
        for low, index in ((0, 1), (5, 1), (-1, 1), (2, 0), (2, 3), (2, -1), (4, 5), (1, 2)):
            for function in (particles.lanes_of_low, particles.comes, particles.read_back):
                with self.assertRaises(CanNot):
                    function(ring, drawing, low, index)
            with self.assertRaises(CanNot):
                particles.held_by(ring, drawing, low, index, 0)
        for run in (-1, 6, 7, 10 ** 6):
            with self.assertRaises(CanNot):
                particles.held_by(ring, drawing, 2, 1, run)
        self.assertEqual("end", particles.held_by(ring, drawing, 4, 1, 5))


class GreatRings(unittest.TestCase):
    def test_all_functions(self):
        for ring in GREAT:
            n, k = ring
            top = n - 2 * k
            long = tuple((a, b) for a, b in plain.all_lines(n) if k < b - a < n - k)
            for drawing in [long, (), *plain.some_subsets(long, 2, seed=n + k)]:
                crowd = particles.least_width(ring, drawing)
                self.assertIs(particles.all_come(ring, drawing), crowd <= k)
                self.assertIs(particles.falls_short(ring, drawing) is None, crowd <= k)
                orders = plain.greedy_wires(ring, drawing) if top > 1 else []
                for low in range(1, top, 5):
                    lanes = [tuple(at + 1 for at, wire in enumerate(own) if wire <= low) for own in orders]
                    self.assertEqual(lanes, particles.low_lanes(ring, drawing, low))
                    below = len([lane for lane in lanes[-1] if lane <= top - low])
                    self.assertEqual(below, particles.how_many_below(ring, drawing, low))
                    for index in (1, low):
                        way = tuple(own[low - index] for own in lanes)
                        self.assertEqual(way, particles.lanes_of_low(ring, drawing, low, index))
                        self.assertIs(particles.comes(ring, drawing, low, index), way[-1] == top + 1 - index)
                        run = n - k - 2
                        expected = holder(ring, drawing, lanes, low, index, run)
                        self.assertEqual(expected, particles.held_by(ring, drawing, low, index, run))
                        if way[-1] != top + 1 - index:
                            read = particles.read_back(ring, drawing, low, index)
                            self.assertEqual(noted_lines(ring, drawing, lanes, low, index), read)
                if crowd > k:
                    found = particles.noted(ring, drawing)
                    self.assertIs(particles.is_noted(ring, drawing, found), True)
                    self.assertEqual(k + 1, len(found))
                    self.assertLessEqual(set(found), set(drawing))
                    self.assertTrue(all(a < c < b < d for (a, b), (c, d) in combinations(found, 2)))

    def test_least_width(self):
        every = plain.all_lines(40)
        for k in (1, 7, 19):
            self.assertEqual(20, particles.least_width((40, k), every))
            self.assertEqual(19, particles.least_width((39, k), plain.all_lines(39)))
            self.assertEqual(19, particles.least_width((40, k), tuple(own for own in every if own[1] - own[0] < 20)))
            self.assertEqual(1, particles.least_width((40, k), tuple((0, b) for b in range(1, 40))))
            self.assertEqual(0, particles.least_width((40, k), ()))
        for most in range(1, 20):
            lines = tuple((a, b) for a, b in every if min(b - a, 40 - b + a) <= most)
            self.assertEqual(most, particles.least_width((40, 3), lines))


if __name__ == "__main__":
    unittest.main()
