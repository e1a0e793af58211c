"""Lots, and what can be put to them."""

from starsinaring.checks import ask_of, ask_points, fits_drawing, told_drawing, told_line, told_number, told_ring
from starsinaring.crossing import all_long, is_long, most_across
from starsinaring.errors import Unfit
from starsinaring.wiring import all_wires_cross, lanes_in


def makes_lot(ring, drawing):
    """Whether drawing, a DRAWING, is a LOT of ring."""
    ends = sorted({end: True for line in drawing for end in line})
    if len(ends) < 2 * ring[1] + 2:
        return True
    # the order of the ends tells which LINES cross: without all other points even a RING of any size is small
    small = (len(ends), ring[1])
    places = {end: place for place, end in enumerate(ends)}
    lines = [(places[a], places[b]) for a, b in drawing]
    return all_wires_cross(small, [line for line in lines if is_long(small, line)])


def fits_lot(ring, thing):
    """Whether thing is a LOT of ring."""
    return fits_drawing(ring, thing) and makes_lot(ring, thing)


def told_lot(ring, value):
    """value, a LOT of ring, in tuples throughout; Unfit if it is none."""
    lot = told_drawing(ring, value)
    if not makes_lot(ring, lot):
        raise Unfit()
    return lot


def told_lot_with(ring, lot, points):
    """ring and lot; NoPoint for the first of points, numbers, that is no point of ring."""
    ring = told_ring(ring)
    lot = told_lot(ring, lot)
    for point in points:
        told_number(point)
    ask_points(ring, points)
    return (ring, lot)


def size_of_full(ring):
    """How many LINES a FULL LOT of ring has."""
    return ring[1] * (lanes_in(ring) - 1)


def fan_of(ring, point):
    """The fan of point: all long LINES with an end among the k points from it on."""
    n, k = ring
    ends = [(point + step) % n for step in range(k)]
    return tuple([line for line in all_long(ring) if line[0] in ends or line[1] in ends])


def how_many_full_lots(ring):
    """How many FULL LOTS ring has."""
    above, below = 1, 1
    for high in range(1, lanes_in(ring)):
        for low in range(1, high + 1):
            above *= low + high + 2 * ring[1]
            below *= low + high
    return above // below


def is_full_lot(ring, drawing):
    """Whether drawing, a DRAWING, is a FULL LOT of ring."""
    return len(drawing) == size_of_full(ring) and makes_lot(ring, drawing)


def fits_full(ring, thing):
    """Whether thing is a FULL LOT of ring."""
    return fits_drawing(ring, thing) and is_full_lot(ring, thing)


def told_full(ring, value):
    """value, a FULL LOT of ring, in tuples throughout; Unfit if it is none."""
    lot = told_drawing(ring, value)
    if not is_full_lot(ring, lot):
        raise Unfit()
    return lot


def told_full_with(ring, lot, line):
    """The three, lot a FULL LOT, line one of its LINES; NoLine if it is none of them."""
    ring = told_ring(ring)
    lot = told_full(ring, lot)
    line = told_line(ring, line)
    ask_of(lot, line)
    return (ring, lot, line)


def can_be_put(ring, lot, line):
    """Whether line, long and none of lot, a LOT, can be put to it."""
    return most_across(ring[0], line, lot) < ring[1]


def put_one_by_one(ring, lot, lines):
    """The LOT that comes if lines, in their order, are put in turn to lot."""
    kept = list(lot)
    for line in lines:
        if line not in kept and can_be_put(ring, kept, line):
            kept.append(line)
    return tuple(sorted(kept))
