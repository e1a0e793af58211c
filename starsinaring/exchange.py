"""Exchanges: one line of a full lot for the one that meets its two stars."""

from starsinaring.checks import ask_out, fits_exchange, fits_line_pair, in_tuples, told_line, told_ring
from starsinaring.errors import Broken, Unfit
from starsinaring.putting import size_of_full, told_full, told_full_with
from starsinaring.swapping import fits_led, led_on, newcomers, row_between, swapped


def newcomer(ring, lot, line):
    """The LINE that comes for line."""
    ring, lot, line = told_full_with(ring, lot, line)
    return newcomers(ring, lot)[line]


def exchanged(ring, lot, line):
    """The FULL LOT with the LINE that comes for line in its place."""
    ring, lot, line = told_full_with(ring, lot, line)
    return swapped(lot, line, newcomers(ring, lot)[line])


def exchanges(ring, lot):
    """All EXCHANGES of lot, ascending."""
    ring = told_ring(ring)
    return _pairs(ring, told_full(ring, lot))


def how_many_exchanges(ring):
    """How many EXCHANGES each FULL LOT has."""
    return size_of_full(told_ring(ring))


def is_exchange(ring, lot, thing):
    """Whether thing is an EXCHANGE of lot."""
    ring = told_ring(ring)
    lot = told_full(ring, lot)
    return fits_line_pair(ring, thing) and thing in _pairs(ring, lot)


def gone_for(ring, lot, line):
    """The set of the LINES of lot for which line comes."""
    ring = told_ring(ring)
    lot = told_full(ring, lot)
    line = told_line(ring, line)
    ask_out(ring, lot, line)
    return tuple([gone for gone, come in _pairs(ring, lot) if come == line])


def beside(ring, lot):
    """The set of the FULL LOTS to which one EXCHANGE leads."""
    ring = told_ring(ring)
    lot = told_full(ring, lot)
    return tuple(sorted([swapped(lot, gone, come) for gone, come in _pairs(ring, lot)]))


def gone_and_come(ring, lot, other):
    """The set of the LINES in lot alone, and the set of those in other alone."""
    ring = told_ring(ring)
    lot = told_full(ring, lot)
    other = told_full(ring, other)
    return (_alone(lot, other), _alone(other, lot))


def exchange_row(ring, lot, other):
    """A tuple of EXCHANGES that leads from lot to other."""
    ring = told_ring(ring)
    lot = told_full(ring, lot)
    return row_between(ring, lot, told_full(ring, other))


def is_exchange_row(ring, lot, other, thing):
    """Whether thing is a tuple of EXCHANGES that leads from lot to other."""
    ring = told_ring(ring)
    lot = told_full(ring, lot)
    return fits_led(ring, lot, told_full(ring, other), thing)


def led_by(ring, lot, row):
    """The FULL LOT to which row leads from lot."""
    ring = told_ring(ring)
    lot = told_full(ring, lot)
    row = in_tuples(row, 3)
    if not isinstance(row, tuple) or not all([fits_exchange(ring, own) for own in row]):
        raise Unfit()
    number, last = led_on(ring, lot, row)
    if number < len(row):
        raise Broken(number)
    return last


def _pairs(ring, lot):
    news = newcomers(ring, lot)
    return [(line, news[line]) for line in lot]


def _alone(lot, other):
    return tuple([line for line in lot if line not in other])
