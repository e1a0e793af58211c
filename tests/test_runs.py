"""Runs: the long lines in order, as ties between lanes."""

import unittest

from starsinaring import runs
from starsinaring.errors import CanNot
from tests import plain

GREAT = [(40, 1), (40, 2), (40, 11), (40, 18), (40, 19), (39, 1), (39, 19), (37, 4)]


class SmallRings(unittest.TestCase):
    """Each function beside what the document says, in all rings of few points and in some great ones."""

    def each(self):
        for ring in plain.rings_to(11) + GREAT:
            n, k = ring
            yield ring, n, k, n - 2 * k

    def test_runs(self):
        for ring, n, k, top in self.each():
            told = plain.runs_of(ring)
            self.assertEqual(top, runs.how_many_lanes(ring))
            self.assertEqual(n - k - 1, runs.how_many_runs(ring))
            self.assertEqual(len(told), runs.how_many_runs(ring))
            self.assertEqual(told, runs.runs_of(ring))
            self.assertEqual(sum(len(own) for own in told), runs.how_many_ties(ring))
            self.assertEqual(n * (top - 1) // 2, runs.how_many_ties(ring))
            self.assertEqual(list(plain.long_lines(ring)), [line for own in told for line in own])
            for run, own in enumerate(told):
                self.assertEqual(own, runs.run_of(ring, run))
                self.assertEqual(max([b - a - k + 1 for a, b in own], default=1), runs.run_end(ring, run))
                self.assertEqual(top - 1 - max(0, run - k), len(own))

    def test_ties(self):
        for ring, n, k, top in self.each():
            places = {}
            for a, b in plain.long_lines(ring):
                self.assertEqual((a, b - a - k), runs.tie_of(ring, (a, b)))
                self.assertEqual((a, b), runs.line_tied(ring, a, b - a - k))
                places[(a, b - a - k)] = (a, b)
            for run in range(-2, n + 1):
                for lane in range(-2, top + 3):
                    self.assertIs(runs.is_tie(ring, (run, lane)), (run, lane) in places)
                    if (run, lane) not in places:
                        with self.assertRaises(CanNot):
                            runs.line_tied(ring, run, lane)
            for lane in range(1, top + 1):
                own = tuple(line for (_, low), line in sorted(places.items()) if low == lane)
                self.assertEqual(own, runs.ties_above(ring, lane))
                self.assertEqual(top + k - lane if lane < top else 0, len(own))

    def test_what_is_none(self):
        for ring, n, k, top in self.each():
            for run in (-1, n - k - 1, n - k, n, -n):
                for function in (runs.run_of, runs.run_end):
                    with self.assertRaises(CanNot):
                        function(ring, run)
            for lane in (0, -1, top + 1, top + 2):
                with self.assertRaises(CanNot):
                    runs.ties_above(ring, lane)
            long = plain.long_lines(ring)
            for line in plain.all_lines(min(n, 9)):
                if line not in long:
                    for function in (runs.tie_of, runs.upper_next, runs.lower_next):
                        with self.assertRaises(CanNot):
                            function(ring, line)
                    for pair in [(line, line)] + [(line, own) for own in long[:1]] + [(own, line) for own in long[-1:]]:
                        with self.assertRaises(CanNot):
                            runs.ties_met(ring, *pair)

    def test_next_ties(self):
        for ring, n, k, top in self.each():
            ties = [(a, b, b - a - k) for a, b in plain.long_lines(ring)]
            for at, (a, b, lane) in enumerate(ties):
                behind = [own for own in ties[at + 1:] if own[2] in (lane - 1, lane)]
                low = runs.lower_next(ring, (a, b))
                self.assertEqual((a + 1, b), low)
                if lane > 1:
                    self.assertEqual(low, behind[0][:2])
                else:
                    self.assertEqual(k, plain.length(n, low))
                above = [own for own in ties[at + 1:] if own[2] in (lane, lane + 1)]
                high = runs.upper_next(ring, (a, b))
                self.assertEqual(tuple(sorted((a, (b + 1) % n))), high)
                if b == n - 1:
                    self.assertEqual(((0, a), []), (high, above))
                elif lane + 1 < top:
                    self.assertEqual(high, above[0][:2])
                else:
                    self.assertEqual(k, plain.length(n, high))

    def test_ties_met(self):
        for ring, n, k, _ in self.each():
            long = plain.long_lines(ring)
            step = 1 if n < 9 else 29
            for line in range(0, len(long), step):
                for other in range(0, len(long), step):
                    met = runs.ties_met(ring, long[line], long[other])
                    self.assertEqual(long[line + 1:other], met)

    def test_kinds_of_ties(self):
        for thing in ((0, True), (False, 1), (True, True), [0, 1], (0, 1, 1), (0,), (), None, 0, "01", (0, 1.0), ((0, 1),),
                      (0, None), (10 ** 100, 1), (0, 10 ** 100), (0, -10 ** 100), ("0", 1)):
            self.assertIs(runs.is_tie((8, 2), thing), False, thing)
        self.assertIs(runs.is_tie((8, 2), (0, 1)), True)
        self.assertIs(runs.is_tie((5, 2), (0, 1)), False)


if __name__ == "__main__":
    unittest.main()
