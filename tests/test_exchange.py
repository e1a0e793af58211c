"""Exchanges: one line of a full lot for the one that meets its two stars."""

import unittest
from random import Random

from starsinaring import exchange
from starsinaring.errors import Broken, NoLine, Unfit
from tests import plain
from tests.raising import Raising
from tests.rings import GREAT, SMALL, great_full_lots, some_full_lots
from tests.wrong import nested


class SmallRings(Raising):
    """Each function beside a plain search over all FULL LOTS."""

    def test_exchanges(self):
        for ring, lot in some_full_lots():
            n, k = ring
            pairs = plain.exchanges(ring)[lot]
            self.assertEqual(pairs, exchange.exchanges(ring, lot))
            self.assertEqual(k * (n - 2 * k - 1), len(pairs))
            self.assertEqual(len(pairs), exchange.how_many_exchanges(ring))
            come_for = dict(pairs)
            # of each LINE there is just one EXCHANGE
            self.assertEqual(list(lot), [gone for gone, _ in pairs])
            for line in plain.all_lines(n):
                if line in lot:
                    self.assertEqual(come_for[line], exchange.newcomer(ring, lot, line))
                    self.assertEqual(plain.swapped(lot, line, come_for[line]), exchange.exchanged(ring, lot, line))
                else:
                    self.assert_raises(NoLine, {"line": line}, exchange.newcomer, ring, lot, line)
                    self.assert_raises(NoLine, {"line": line}, exchange.exchanged, ring, lot, line)
            lots = sorted({plain.swapped(lot, *pair) for pair in pairs})
            self.assertEqual(tuple(lots), exchange.beside(ring, lot))
            self.assertEqual(len(pairs), len(lots))

    def test_back_again(self):
        for ring, lot in some_full_lots():
            for gone, come in exchange.exchanges(ring, lot):
                other = exchange.exchanged(ring, lot, gone)
                self.assertEqual((gone, lot), (exchange.newcomer(ring, other, come), exchange.exchanged(ring, other, come)))

    def test_what_comes_meets_the_stars(self):
        for ring, lot in some_full_lots():
            n, _ = ring
            stars = plain.stars_in(ring, lot)
            for line, come in plain.exchanges(ring)[lot]:
                star, other = [own for own in stars if line in plain.star_lines(own)]
                self.assertTrue(plain.meets(n, come, star, other))
                self.assertEqual(come, exchange.newcomer(ring, lot, line))

    def test_is_exchange(self):
        for ring in [(5, 1), (6, 1), (5, 2), (6, 2), (7, 2), (8, 3)]:
            lines = plain.all_lines(ring[0])
            for lot in plain.full_lots(ring):
                pairs = plain.exchanges(ring)[lot]
                for gone in lines:
                    for come in lines:
                        self.assertIs(exchange.is_exchange(ring, lot, (gone, come)), (gone, come) in pairs)

    def test_gone_for(self):
        for ring, lot in some_full_lots():
            n, _ = ring
            stars = plain.stars_in(ring, lot)
            pairs = plain.exchanges(ring)[lot]
            for line in plain.all_lines(n):
                if line in lot or line not in plain.long_lines(ring):
                    self.assert_raises(NoLine, {"line": line}, exchange.gone_for, ring, lot, line)
                    continue
                gone = exchange.gone_for(ring, lot, line)
                self.assertEqual(tuple(own for own, come in pairs if come == line), gone)
                star, other = [own for own in stars if any(own != far and plain.meets(n, line, own, far) for far in stars)]
                self.assertEqual(sorted(set(plain.star_lines(star)) & set(plain.star_lines(other))), list(gone))

    def test_two_lots(self):
        for ring in SMALL + [(8, 2), (9, 3)]:
            lots = plain.full_lots(ring)
            few = len(lots) < 15
            for lot in lots if few else lots[::5]:
                for other in lots if few else lots[::3]:
                    both = (tuple(own for own in lot if own not in other), tuple(own for own in other if own not in lot))
                    self.assertEqual(both, exchange.gone_and_come(ring, lot, other))
                    row = exchange.exchange_row(ring, lot, other)
                    self.assertIsInstance(row, tuple)
                    self.assertEqual(lot == other, row == ())
                    at = lot
                    for pair in row:
                        self.assertIn(pair, plain.exchanges(ring)[at])
                        at = plain.swapped(at, *pair)
                    self.assertEqual(other, at)
                    self.assertIs(exchange.is_exchange_row(ring, lot, other, row), True)
                    self.assertEqual(other, exchange.led_by(ring, lot, row))

    def test_rows_that_break(self):
        source = Random(14)
        for ring in [(5, 1), (6, 1), (7, 1), (6, 2), (7, 2), (8, 2), (8, 3)]:
            long = plain.long_lines(ring)
            every = [(gone, come) for gone in long for come in long if gone != come]
            for lot in plain.full_lots(ring)[::4]:
                for _ in range(12):
                    row, at = [], lot
                    for _ in range(source.randint(0, 9)):
                        row.append(source.choice(plain.exchanges(ring)[at]))
                        at = plain.swapped(at, *row[-1])
                    self.assertEqual(at, exchange.led_by(ring, lot, tuple(row)))
                    self.assertIs(exchange.is_exchange_row(ring, lot, at, tuple(row)), True)
                    other = source.choice(plain.full_lots(ring))
                    self.assertIs(exchange.is_exchange_row(ring, lot, other, tuple(row)), other == at)
                    # one that is none of the LOT then, at whatever place, whatever stands behind it
                    bad = source.choice([pair for pair in every if pair not in plain.exchanges(ring)[at]])
                    broken = (*row, bad, *plain.exchanges(ring)[at][:2])
                    self.assert_raises(Broken, {"number": len(row)}, exchange.led_by, ring, lot, broken)
                    self.assert_raises(Broken, {"number": len(row)}, exchange.led_by, ring, lot, plain.deep_list(broken))
                    for end in (at, plain.swapped(at, *bad)):
                        if end in plain.full_lots(ring):
                            self.assertIs(exchange.is_exchange_row(ring, lot, end, (*row, bad)), False)


class Edges(Raising):
    def test_nothing_to_exchange(self):
        for ring in ((3, 1), (5, 2), (39, 19)):
            self.assertEqual(([], 0, ()), (exchange.exchanges(ring, ()), exchange.how_many_exchanges(ring), exchange.beside(ring, ())))
            self.assertEqual((((), ()), ()), (exchange.gone_and_come(ring, (), ()), exchange.exchange_row(ring, (), ())))
            self.assertIs(exchange.is_exchange_row(ring, (), (), ()), True)
            self.assertIs(exchange.is_exchange_row(ring, (), (), ((),)), False)
            self.assertIs(exchange.is_exchange(ring, (), ((0, 1), (0, 2))), False)
            self.assertEqual((), exchange.led_by(ring, (), ()))
            for function in (exchange.newcomer, exchange.exchanged, exchange.gone_for):
                self.assert_raises(NoLine, {"line": (0, 2)}, function, ring, (), (0, 2))
            self.assert_raises(Unfit, {}, exchange.led_by, ring, (), (((0, 1), (0, 2)),))

    def test_two_full_lots(self):
        self.assertEqual([((0, 2), (1, 3))], exchange.exchanges((4, 1), ((0, 2),)))
        self.assertEqual((((0, 2), (1, 3)),), exchange.exchange_row((4, 1), ((0, 2),), ((1, 3),)))

    def test_broken_at_the_first_and_later(self):
        seven, low = (7, 2), ((0, 3), (0, 4), (1, 4), (1, 5))
        good, back, bad = ((0, 3), (2, 5)), ((2, 5), (0, 3)), ((0, 3), (3, 6))
        for row, number in (((bad,), 0), ((good, bad), 1), ((good, back, bad), 2), ((bad, bad), 0), ((good, good), 1), ((back,), 0),
                            ((good, back, good, back, bad, good), 4), ((bad, good), 0), ((((0, 3), (0, 4)),), 0)):
            self.assert_raises(Broken, {"number": number}, exchange.led_by, seven, low, row)
            self.assertIs(exchange.is_exchange_row(seven, low, low, row), False)
        self.assertEqual(low, exchange.led_by(seven, low, ()))
        self.assertEqual(low, exchange.led_by(seven, low, (good, back) * 40))

    def test_rows_that_are_none(self):
        seven, low = (7, 2), ((0, 3), (0, 4), (1, 4), (1, 5))
        good = ((0, 3), (2, 5))
        for row in (good, (good, None), (good, good[0]), ((good,),), (((0, 3), (0, 2)),), (((0, 2), (0, 3)),), (((0, 3), (0, 3)),), None,
                    (((0, 3),),), (((0, 3), (2, 5), (2, 6)),), (((3, 0), (2, 5)),), (((0, 3), (0, 7)),), (((0, 3), (0, 1)),), {good}, 0,
                    ((good[0], None),), ((False, good),), (((False, 3), (2, 5)),), "", nested(20, good)):
            self.assert_raises(Unfit, {}, exchange.led_by, seven, low, row)
            self.assertIs(exchange.is_exchange_row(seven, low, ((0, 4), (1, 4), (1, 5), (2, 5)), row), False, row)
            self.assertIs(exchange.is_exchange(seven, low, row), row == good)
        # ahead of Broken, wherever it stands
        self.assert_raises(Unfit, {}, exchange.led_by, seven, low, (((0, 3), (3, 6)), ((0, 3), (0, 2))))
        self.assert_raises(Unfit, {}, exchange.led_by, seven, low[1:], (((0, 3), (3, 6)),))

    def test_things(self):
        six, hand, other = (6, 2), ((0, 3), (1, 4)), ((1, 4), (2, 5))
        good = ((0, 3), (2, 5))
        for thing in ([good], (list(good),), (((0, 3), [2, 5]),), (((False, 3), (2, 5)),), (((0, 3.0), (2, 5)),), (good, good), (good, None), None,
                      ((good,),), good, nested(20, 0), nested(18, good), True, "ab", (good,) * 1000, ((0, 3), (2, 5), (1, 4)), 0, {}):
            self.assertIs(exchange.is_exchange_row(six, hand, other, thing), False, thing)
        back = (good[1], good[0])
        self.assertIs(exchange.is_exchange_row(six, hand, other, (good,)), True)
        self.assertIs(exchange.is_exchange_row(six, hand, other, (good, back) * 3000 + (good,)), True)
        self.assertIs(exchange.is_exchange_row(six, hand, other, (good, back) * 3000), False)
        self.assertIs(exchange.is_exchange_row(six, hand, hand, ()), True)
        self.assertIs(exchange.is_exchange_row(six, hand, hand, []), False)
        for thing in ([(0, 3), (2, 5)], ((0, 3), [2, 5]), ((False, 3), (2, 5)), ((0, 3), (2, 5), ()), ((0, 3),), None, 5, "ab", (0, 3),
                      ((0, 3), (0, 3)), ((2, 5), (0, 3)), ((1, 4), (0, 3)), ((0, 2), (2, 5)), ((0, 3), (2, 5.0)), nested(20, 0)):
            self.assertIs(exchange.is_exchange(six, hand, thing), False, thing)


class GreatRings(Raising):
    def test_all_functions(self):
        for ring in GREAT:
            n, k = ring
            lots = great_full_lots(ring)
            for full in lots:
                pairs = exchange.exchanges(ring, full)
                self.assertEqual(k * (n - 2 * k - 1), len(pairs))
                self.assertEqual(len(pairs), exchange.how_many_exchanges(ring))
                self.assertEqual(list(full), [gone for gone, _ in pairs])
                self.assertEqual(tuple(sorted(plain.swapped(full, *pair) for pair in pairs)), exchange.beside(ring, full))
                for gone, come in pairs[::17]:
                    self.assertEqual(come, exchange.newcomer(ring, full, gone))
                    self.assertIn(gone, exchange.gone_for(ring, full, come))
                    self.assertIs(exchange.is_exchange(ring, full, (gone, come)), True)
                    self.assertIs(exchange.is_exchange(ring, full, (come, gone)), False)
                    other = exchange.exchanged(ring, full, gone)
                    self.assertEqual(full, exchange.exchanged(ring, other, come))
                    self.assertEqual(((gone,), (come,)), exchange.gone_and_come(ring, full, other))
            for lot, other in zip(lots, lots[1:] + lots[:1]):
                row = exchange.exchange_row(ring, lot, other)
                self.assertEqual(other, exchange.led_by(ring, lot, row))
                self.assertIs(exchange.is_exchange_row(ring, lot, other, row), True)
                self.assertIs(exchange.is_exchange_row(ring, lot, other, row[1:]), row == ())


if __name__ == "__main__":
    unittest.main()
