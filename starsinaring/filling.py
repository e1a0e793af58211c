"""Full lots, and how lots come to be full."""

from starsinaring.checks import (
    ask_points, fits_crowd_of, fits_long_line, told_drawing, told_long_row, told_number, told_ring,
)
from starsinaring.crossing import all_long, largest_crowd
from starsinaring.errors import CanNot
from starsinaring.putting import can_be_put, fan_of, fits_full, put_one_by_one, size_of_full, told_full, told_lot
from starsinaring.wiring import all_wires_cross


def is_full(ring, thing):
    """Whether thing is a FULL LOT of ring."""
    return fits_full(told_ring(ring), thing)


def full_size(ring):
    """How many LINES a FULL LOT has."""
    return size_of_full(told_ring(ring))


def lines_short(ring, lot):
    """How many LINES lot has less than a FULL one."""
    ring = told_ring(ring)
    return size_of_full(ring) - len(told_lot(ring, lot))


def put_in_turn(ring, lot, lines):
    """The LOT that comes if lines are put in turn to lot."""
    ring = told_ring(ring)
    lot = told_lot(ring, lot)
    return put_one_by_one(ring, lot, told_long_row(ring, lines))


def filled(ring, lot):
    """The FULL LOT that comes if all long LINES, ascending, are put in turn to lot."""
    return filled_by(ring, lot, ())


def filled_by(ring, lot, lines):
    """The FULL LOT that comes if lines, then all long LINES, ascending, are put in turn to lot."""
    ring = told_ring(ring)
    lot = told_lot(ring, lot)
    lines = told_long_row(ring, lines)
    return put_one_by_one(ring, lot, lines + all_long(ring))


def why_not_full(ring, drawing):
    """("crowd", a CROWD of k + 1 LINES of drawing) or ("line", a LINE that can be put to it)."""
    ring = told_ring(ring)
    drawing = told_drawing(ring, drawing)
    if not all_wires_cross(ring, drawing):
        return ("crowd", largest_crowd(ring[0], drawing)[:ring[1] + 1])
    for line in all_long(ring):
        if line not in drawing and can_be_put(ring, drawing, line):
            return ("line", line)
    raise CanNot()


def is_why_not_full(ring, drawing, thing):
    """Whether thing is such a pair as why_not_full tells."""
    ring = told_ring(ring)
    drawing = told_drawing(ring, drawing)
    if not isinstance(thing, tuple) or len(thing) != 2:
        return False
    word, why = thing
    if not all_wires_cross(ring, drawing):
        return word == "crowd" and fits_crowd_of(ring, why, drawing, ring[1] + 1)
    return word == "line" and fits_long_line(ring, why) and why not in drawing and can_be_put(ring, drawing, why)


def fan_at(ring, point):
    """The fan of point."""
    ring = told_ring(ring)
    told_number(point)
    ask_points(ring, (point,))
    return fan_of(ring, point)


def fans_like(ring, lot):
    """The set of the points whose fan lot, a FULL LOT, is."""
    ring = told_ring(ring)
    lot = told_full(ring, lot)
    return tuple([point for point in range(ring[0]) if fan_of(ring, point) == lot])
