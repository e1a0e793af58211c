"""Lots, and what can be put to them."""

from starsinaring.checks import fits_drawing, told_drawing
from starsinaring.crossing import most_across
from starsinaring.errors import Unfit
from starsinaring.wiring import all_wires_cross, lanes_in


def fits_lot(ring, thing):
    """Whether thing is a LOT of ring."""
    return fits_drawing(ring, thing) and all_wires_cross(ring, thing)


def told_lot(ring, value):
    """value, a LOT of ring, in tuples throughout; Unfit if it is none."""
    lot = told_drawing(ring, value)
    if not all_wires_cross(ring, lot):
        raise Unfit()
    return lot


def size_of_full(ring):
    """How many LINES a FULL LOT of ring has."""
    return ring[1] * (lanes_in(ring) - 1)


def told_full(ring, value):
    """value, a FULL LOT of ring, in tuples throughout; Unfit if it is none."""
    lot = told_lot(ring, value)
    if len(lot) != size_of_full(ring):
        raise Unfit()
    return lot


def can_be_put(ring, lot, line):
    """Whether line, long and none of lot, a LOT, can be put to it."""
    return most_across(ring[0], line, lot) < ring[1]


def put_one_by_one(ring, lot, lines):
    """The LOT that comes if lines, in their order, are put in turn to lot."""
    kept = list(lot)
    for line in lines:
        if line not in kept and can_be_put(ring, kept, line):
            kept.append(line)
    return tuple(sorted(kept))
