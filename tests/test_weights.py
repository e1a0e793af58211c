"""Weights: the lanes of the wires, added up; and full lots that are worth most."""

import unittest
from itertools import product
from random import Random

from starsinaring import weights
from starsinaring.errors import NoLine, Unfit
from tests import plain
from tests.raising import Raising
from tests.rings import GREAT, great_full_lots, some_full_lots

RINGS = [(3, 1), (4, 1), (5, 1), (5, 2), (6, 1), (6, 2), (7, 1), (7, 2), (7, 3), (8, 1), (8, 2), (8, 3), (9, 3), (9, 4), (10, 3), (9, 2)]


def wires_in(ring):
    return range(1, ring[0] - 2 * ring[1] + 1)


def some_prices(ring, many):
    """Prices of all kinds: alike, below 0, growing, falling, mixed."""
    source = Random(ring[0])
    top = len(wires_in(ring))
    found = [(0,) * top, (-7,) * top, tuple(range(top)), tuple(range(top, 0, -1)), tuple(-own for own in range(top)), (10 ** 6,) * top]
    found += [tuple(int(own == at) for own in range(top)) for at in range(top)]
    found += [tuple(source.randint(-3, 3) for _ in range(top)) for _ in range(many)]
    return found + [tuple(source.randint(-10 ** 6, 10 ** 6) for _ in range(top)) for _ in range(many)]


class SmallRings(Raising):
    """Each function beside a plain search over all FULL LOTS."""

    def test_weights(self):
        for ring, lot in some_full_lots():
            own = plain.weights(ring, lot)
            self.assertEqual(own, weights.wire_weights(ring, lot))
            self.assertEqual(sum(own), weights.weight_sum(ring))

    def test_weights_moved(self):
        for ring, lot in some_full_lots():
            own = plain.weights(ring, lot)
            lanes = {line: (low, high) for line, low, high in plain.plain_wires(ring, lot)[0]}
            for line, come in plain.exchanges(ring)[lot]:
                then = plain.weights(ring, plain.swapped(lot, line, come))
                low, high = lanes[line]
                moved = [after - ahead for ahead, after in zip(own, then)]
                self.assertEqual((low, high, moved[low - 1]), weights.weight_moved(ring, lot, line))
                self.assertGreaterEqual(moved[low - 1], 1)
                self.assertEqual(-moved[low - 1], moved[high - 1])
                self.assertEqual(2, len([step for step in moved if step]))
            for line in plain.all_lines(ring[0]):
                if line not in lot:
                    self.assert_raises(NoLine, {"line": line}, weights.weight_moved, ring, lot, line)

    def test_chosen_wires(self):
        for ring in RINGS:
            told = {lot: plain.weights(ring, lot) for lot in plain.full_lots(ring)}
            for chosen in plain.subsets(wires_in(ring))[:40]:
                together = {lot: sum(own[wire - 1] for wire in chosen) for lot, own in told.items()}
                most = max(together.values())
                self.assertEqual(most, weights.most_weight(ring, chosen))
                self.assertEqual(min(together.values()), weights.least_weight(ring, chosen))
                lanes = weights.best_lanes(ring, chosen)
                self.assertIsInstance(lanes, list)
                for lot in [lot for lot in told if together[lot] == most][:5]:
                    orders = plain.plain_wires(ring, lot)[1]
                    self.assertEqual([tuple(sorted(order.index(wire) + 1 for wire in chosen)) for order in orders], lanes)

    def test_worth(self):
        for ring in RINGS:
            told = {lot: plain.weights(ring, lot) for lot in plain.full_lots(ring)}
            for prices in some_prices(ring, 4):
                worth = {lot: sum(weight * price for weight, price in zip(own, prices)) for lot, own in told.items()}
                most = max(worth.values())
                self.assertEqual(most, weights.best_worth(ring, prices))
                best = weights.best_full(ring, prices)
                self.assertEqual(most, worth[best])
                if len(set(prices)) == len(prices):
                    self.assertEqual([best], [lot for lot in worth if worth[lot] == most])
                for lot in {best, *list(worth)[::max(1, len(worth) // 25)]}:
                    self.assertEqual(worth[lot], weights.worth(ring, lot, prices))
                    self.assertIs(weights.is_best(ring, lot, prices), worth[lot] == most)
                    raising = tuple(gone for gone, come in plain.exchanges(ring)[lot] if worth[plain.swapped(lot, gone, come)] > worth[lot])
                    self.assertEqual(raising, weights.raising(ring, lot, prices))

    def test_all_prices_of_some_rings(self):
        for ring in [(5, 1), (7, 2), (6, 2), (8, 3)]:
            for prices in product((-1, 0, 2), repeat=len(wires_in(ring))):
                worth = {lot: weights.worth(ring, lot, prices) for lot in plain.full_lots(ring)}
                most = max(worth.values())
                self.assertEqual(most, worth[weights.best_full(ring, prices)])
                for lot in worth:
                    self.assertIs(weights.is_best(ring, lot, prices), worth[lot] == most)


class Edges(Raising):
    def test_one_wire(self):
        for n, k in ((3, 1), (5, 2), (39, 19)):
            ring = (n, k)
            runs = n - k - 1
            self.assertEqual(((runs,), runs), (weights.wire_weights(ring, ()), weights.weight_sum(ring)))
            self.assertEqual((runs, runs), (weights.most_weight(ring, (1,)), weights.least_weight(ring, (1,))))
            self.assertEqual((0, 0), (weights.most_weight(ring, ()), weights.least_weight(ring, ())))
            self.assertEqual(([(1,)] * runs, [()] * runs), (weights.best_lanes(ring, (1,)), weights.best_lanes(ring, ())))
            self.assertEqual((-3 * runs, -3 * runs), (weights.worth(ring, (), (-3,)), weights.best_worth(ring, (-3,))))
            self.assertEqual((True, ()), (weights.is_best(ring, (), (5,)), weights.best_full(ring, (5,))))
            self.assertEqual((), weights.raising(ring, (), (5,)))
            self.assert_raises(NoLine, {"line": (0, 1)}, weights.weight_moved, ring, (), (0, 1))

    def test_no_wire_and_all(self):
        for ring in ((6, 1), (7, 2), (9, 3), (40, 5)):
            every = tuple(wires_in(ring))
            lanes = weights.best_lanes(ring, every)
            self.assertEqual([every] * len(lanes), lanes)
            self.assertEqual([()] * len(lanes), weights.best_lanes(ring, []))
            self.assertEqual((weights.weight_sum(ring),) * 2, (weights.most_weight(ring, every), weights.least_weight(ring, every)))
            self.assertEqual((0, 0), (weights.most_weight(ring, ()), weights.least_weight(ring, ())))

    def test_prices_alike(self):
        for ring in ((5, 1), (7, 2), (8, 3)):
            top = len(wires_in(ring))
            for price in (-4, 0, 1, 10 ** 6, -10 ** 6):
                self.assertEqual(price * weights.weight_sum(ring), weights.best_worth(ring, (price,) * top))
                for lot in plain.full_lots(ring):
                    self.assertIs(weights.is_best(ring, lot, (price,) * top), True)
                    self.assertEqual((), weights.raising(ring, lot, [price] * top))

    def test_wires_and_prices_that_are_none(self):
        seven, wide = (7, 2), ((0, 3), (1, 5), (2, 5), (3, 6))
        for chosen in ((0,), (4,), (-1,), (1, 4), (0, 1), (2, 1), (1, 1), (True,), (1, True), (None,), ("1",), (1.0,), ((1,),), 1, None, "12", {1: 2}, {1}):
            for function in (weights.most_weight, weights.least_weight, weights.best_lanes):
                self.assert_raises(Unfit, {}, function, seven, chosen)
        for prices in ((), (1, 2), (1, 2, 3, 4), (1, 2, None), (True, 1, 2), (1, 2.0, 3), ("1", 2, 3), ((1,), 2, 3), 3, None, "123", {1, 2, 3}):
            for function in (weights.best_worth, weights.best_full):
                self.assert_raises(Unfit, {}, function, seven, prices)
            for function in (weights.worth, weights.is_best, weights.raising):
                self.assert_raises(Unfit, {}, function, seven, wide, prices)
        for lot in (wide[1:], (), wide[::-1], ((0, 3), (1, 4), (2, 5), (3, 6))):
            self.assert_raises(Unfit, {}, weights.weight_moved, seven, lot, (2, 6))
            self.assert_raises(Unfit, {}, weights.wire_weights, seven, lot)


class GreatRings(Raising):
    def test_all_functions(self):
        for ring in GREAT:
            n, k = ring
            top = n - 2 * k
            for lot in great_full_lots(ring):
                own = weights.wire_weights(ring, lot)
                self.assertEqual((n - k - 1) * top * (top + 1) // 2, sum(own))
                self.assertEqual(sum(own), weights.weight_sum(ring))
                for line in lot[::23]:
                    low, high, number = weights.weight_moved(ring, lot, line)
                    prices = tuple(int(wire == low) for wire in wires_in(ring))
                    self.assertIn(line, weights.raising(ring, lot, prices))
                    self.assertGreaterEqual(number, 1)
                    self.assertGreaterEqual(weights.most_weight(ring, (low,)), own[low - 1] + number)
                    self.assertLessEqual(weights.least_weight(ring, (high,)), own[high - 1] - number)
            for prices in some_prices(ring, 1)[:3] + some_prices(ring, 1)[-2:]:
                best = weights.best_full(ring, prices)
                self.assertIs(weights.is_best(ring, best, prices), True)
                self.assertEqual(weights.worth(ring, best, prices), weights.best_worth(ring, prices))
                for lot in great_full_lots(ring):
                    self.assertLessEqual(weights.worth(ring, lot, prices), weights.best_worth(ring, prices))
            for chosen in {(1,), (top,), tuple(wires_in(ring))[::2]}:
                prices = tuple(int(wire in chosen) for wire in wires_in(ring))
                self.assertEqual(weights.best_worth(ring, prices), weights.most_weight(ring, chosen))
                self.assertEqual(-weights.best_worth(ring, tuple(-own for own in prices)), weights.least_weight(ring, chosen))
                orders = plain.plain_wires(ring, weights.best_full(ring, prices))[1]
                lanes = [tuple(sorted(order.index(wire) + 1 for wire in chosen)) for order in orders]
                self.assertEqual(lanes, weights.best_lanes(ring, chosen))


if __name__ == "__main__":
    unittest.main()
