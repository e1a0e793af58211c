"""Weights: the lanes of the wires, added up; and full lots that are worth most."""

from starsinaring.checks import told_number, told_numbers, told_ring, told_row
from starsinaring.errors import Unfit
from starsinaring.putting import fan_of, told_full, told_full_with
from starsinaring.swapping import newcomers, swapped
from starsinaring.wiring import lanes_in, plain_wires, runs_in, wire_orders


def wire_weights(ring, lot):
    """The weights of the wires, wire 1 first."""
    ring = told_ring(ring)
    return _weights(ring, told_full(ring, lot))


def weight_sum(ring):
    """What the weights of all wires come to."""
    return _sum(told_ring(ring))


def weight_moved(ring, lot, line):
    """The wire that gains if line is exchanged, the one that loses, and how much."""
    ring, lot, line = told_full_with(ring, lot, line)
    pairs, _ = plain_wires(ring, lot)
    low, high = pairs[line]
    moved = _weights(ring, swapped(lot, line, newcomers(ring, lot)[line]))
    return (low, high, moved[low - 1] - _weights(ring, lot)[low - 1])


def most_weight(ring, chosen):
    """The most that the wires of chosen weigh together in a FULL LOT."""
    ring = told_ring(ring)
    return _most(ring, _told_wires(ring, chosen))


def least_weight(ring, chosen):
    """The least that the wires of chosen weigh together in a FULL LOT."""
    ring = told_ring(ring)
    chosen = _told_wires(ring, chosen)
    others = [wire for wire in range(1, lanes_in(ring) + 1) if wire not in chosen]
    # all weights come to the same: the others weigh most where these weigh least
    return _sum(ring) - _most(ring, others)


def best_lanes(ring, chosen):
    """Run by run, the lanes of the wires of chosen behind it, where they weigh most."""
    ring = told_ring(ring)
    return _lanes(ring, _told_wires(ring, chosen))


def worth(ring, lot, prices):
    """Each wire's weight times its price, added up."""
    ring = told_ring(ring)
    lot = told_full(ring, lot)
    return _worth(ring, lot, _told_prices(ring, prices))


def best_worth(ring, prices):
    """The greatest worth of a FULL LOT."""
    ring = told_ring(ring)
    prices = _told_prices(ring, prices)
    return _worth(ring, _best(ring, prices), prices)


def is_best(ring, lot, prices):
    """Whether no FULL LOT is worth more than lot."""
    return not raising(ring, lot, prices)


def best_full(ring, prices):
    """A FULL LOT than which none is worth more."""
    ring = told_ring(ring)
    return _best(ring, _told_prices(ring, prices))


def raising(ring, lot, prices):
    """The set of the LINES of lot whose EXCHANGE makes it worth more."""
    ring = told_ring(ring)
    lot = told_full(ring, lot)
    return _raising(ring, lot, _told_prices(ring, prices))


def _weights(ring, lot):
    weights = [0] * lanes_in(ring)
    for order in wire_orders(ring, lot)[1:]:
        for at, wire in enumerate(order):
            weights[wire - 1] += at + 1
    return tuple(weights)


def _sum(ring):
    return runs_in(ring) * lanes_in(ring) * (lanes_in(ring) + 1) // 2


def _lanes(ring, chosen):
    """Run by run, the lanes of the chosen wires behind it, where they weigh most: told by points [18]."""
    n, k = ring
    first = [k + wire - 1 for wire in chosen]
    points = list(first)
    for_good = []
    found = []
    for run in range(runs_in(ring)):
        if run < k and points:
            points = points[1:] + [n - k + run]
        elif run in first:
            points = points[1:]
            for_good.append(lanes_in(ring) - run + k)
        found.append(tuple(sorted([point - run - k for point in points] + for_good)))
    return found


def _most(ring, chosen):
    return sum([sum(lanes) for lanes in _lanes(ring, chosen)])


def _worth(ring, lot, prices):
    return sum([weight * price for weight, price in zip(_weights(ring, lot), prices)])


def _raising(ring, lot, prices):
    """The LINES at which the lower wire, that would gain, has the greater price."""
    pairs, _ = plain_wires(ring, lot)
    return tuple([line for line in lot if prices[pairs[line][0] - 1] > prices[pairs[line][1] - 1]])


def _best(ring, prices):
    """A FULL LOT that no EXCHANGE makes worth more."""
    lot = fan_of(ring, 0)
    lines = _raising(ring, lot, prices)
    while lines:
        lot = swapped(lot, lines[-1], newcomers(ring, lot)[lines[-1]])
        lines = _raising(ring, lot, prices)
    return lot


def _told_wires(ring, value):
    """value, a set of wires."""
    wires = told_numbers(value)
    if not all([1 <= wire <= lanes_in(ring) for wire in wires]):
        raise Unfit()
    return wires


def _told_prices(ring, value):
    """value, a tuple of N numbers."""
    prices = tuple([told_number(own) for own in told_row(value)])
    if len(prices) != lanes_in(ring):
        raise Unfit()
    return prices
