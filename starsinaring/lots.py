"""Lots: sets of long lines no k + 1 of which cross two by two."""

from starsinaring.checks import ask_of, ask_out, fits_crowd_of, told_drawing, told_line, told_ring
from starsinaring.crossing import all_long, cross, crowd_across, most_across
from starsinaring.errors import CanNot
from starsinaring.putting import can_be_put, fits_lot, put_one_by_one, told_lot
from starsinaring.wiring import all_wires_cross


def is_lot(ring, thing):
    """Whether thing is a LOT of ring."""
    return fits_lot(told_ring(ring), thing)


def sifted(ring, drawing):
    """The LOT of those LINES of drawing that are kept if they are taken ascending."""
    ring = told_ring(ring)
    return put_one_by_one(ring, (), told_drawing(ring, drawing))


def crossed_by(ring, lot, line):
    """The greatest number of LINES of lot that cross line and one another."""
    ring, lot, line = _told(ring, lot, line)
    return most_across(ring[0], line, lot)


def can_come(ring, lot):
    """The set of the long LINES out of lot that can be put to it."""
    ring = told_ring(ring)
    lot = told_lot(ring, lot)
    return tuple([line for line in all_long(ring) if line not in lot and can_be_put(ring, lot, line)])


def barred(ring, lot):
    """The set of the long LINES out of lot that cannot be put to it."""
    ring = told_ring(ring)
    lot = told_lot(ring, lot)
    return tuple([line for line in all_long(ring) if line not in lot and not can_be_put(ring, lot, line)])


def put_to(ring, lot, line):
    """The LOT with line, too."""
    ring, lot, line = _told_out(ring, lot, line)
    if not can_be_put(ring, lot, line):
        raise CanNot()
    return tuple(sorted((*lot, line)))


def struck(ring, lot, line):
    """The LOT without line."""
    ring, lot, line = _told(ring, lot, line)
    ask_of(lot, line)
    return _without(lot, line)


def bar_of(ring, lot, line):
    """A CROWD of k LINES of lot that all cross line."""
    ring, lot, line = _told_out(ring, lot, line)
    if can_be_put(ring, lot, line):
        raise CanNot()
    # a LOT has no more than k LINES that cross two by two: the greatest CROWD has just so many
    return crowd_across(ring[0], line, lot)


def is_bar(ring, lot, line, thing):
    """Whether thing is a CROWD of k LINES of lot that all cross line."""
    ring, lot, line = _told_out(ring, lot, line)
    return fits_crowd_of(ring, thing, lot, ring[1]) and all([cross(own, line) for own in thing])


def keys_to(ring, lot, line):
    """The set of the LINES of lot such that line can come if this one alone is struck."""
    ring, lot, line = _told_out(ring, lot, line)
    return tuple([own for own in lot if can_be_put(ring, _without(lot, own), line)])


def are_one_lot(ring, lot, other):
    """Whether the LINES of both are a LOT together."""
    ring = told_ring(ring)
    lot = told_lot(ring, lot)
    other = told_lot(ring, other)
    return all_wires_cross(ring, lot + other)


def _without(lot, line):
    return tuple([own for own in lot if own != line])


def _told(ring, lot, line):
    ring = told_ring(ring)
    return (ring, told_lot(ring, lot), told_line(ring, line))


def _told_out(ring, lot, line):
    """The three, line a long one out of lot."""
    ring, lot, line = _told(ring, lot, line)
    ask_out(ring, lot, line)
    return (ring, lot, line)
